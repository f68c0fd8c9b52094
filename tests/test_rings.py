"""[26], what [2] says of it, and the interface of mostwise/rings.py."""

import itertools
import random
import unittest

from mostwise.rings import road


def all_roads(pairs, one, other):
    """Another way to say [26]: every road on which no label stands twice, the shortest first, then the least."""
    found, open_ends = [], [[one]]
    while open_ends:
        so_far = open_ends.pop()
        if so_far[-1] == other:
            found.append(so_far)
            continue
        open_ends += [so_far + [second] for first, second in set(pairs)
                      if first == so_far[-1] and second not in so_far]
    return sorted(found, key=lambda labels: (len(labels), labels))


def best_road(pairs, one, other):
    if one == other:
        return [one]
    return (all_roads(pairs, one, other) or [None])[0]


class RoadTest(unittest.TestCase):
    def test_one_step_and_several(self):
        pairs = [("a", "b"), ("b", "c"), ("c", "d")]
        self.assertEqual(road(pairs, "a", "b"), ["a", "b"])
        self.assertEqual(road(pairs, "a", "c"), ["a", "b", "c"])
        self.assertEqual(road(pairs, "a", "d"), ["a", "b", "c", "d"])
        self.assertEqual(road(pairs, "c", "d"), ["c", "d"])

    def test_from_a_label_to_itself_whatever_the_pairs_are(self):
        for pairs in ([], [("a", "b")], [("a", "a")], [("a", "b"), ("b", "a")], [("b", "a"), ("b", "b")]):
            self.assertEqual(road(pairs, "a", "a"), ["a"])
            self.assertEqual(road(pairs, "x9", "x9"), ["x9"])

    def test_no_road(self):
        self.assertIsNone(road([], "a", "b"))
        self.assertIsNone(road([("a", "b")], "b", "a"))
        self.assertIsNone(road([("a", "b"), ("c", "d")], "a", "d"))
        self.assertIsNone(road([("a", "b"), ("b", "a"), ("c", "a")], "a", "c"))
        self.assertIsNone(road([("a", "b")], "a", "x"))
        self.assertIsNone(road([("a", "b")], "x", "b"))

    def test_pairs_go_one_way(self):
        self.assertIsNone(road([("b", "a"), ("c", "b")], "a", "c"))
        self.assertEqual(road([("b", "a"), ("c", "b")], "c", "a"), ["c", "b", "a"])

    def test_the_shortest_of_several(self):
        pairs = [("a", "b"), ("b", "c"), ("c", "z"), ("a", "y"), ("y", "z")]
        self.assertEqual(road(pairs, "a", "z"), ["a", "y", "z"])
        self.assertEqual(road(pairs + [("a", "z")], "a", "z"), ["a", "z"])

    def test_the_least_of_several_shortest_in_whatever_order_the_pairs_stand(self):
        pairs = [("a", "d"), ("a", "c"), ("d", "z"), ("c", "z")]
        for order in itertools.permutations(pairs):
            self.assertEqual(road(list(order), "a", "z"), ["a", "c", "z"])

    def test_the_least_by_its_first_step_that_differs(self):
        pairs = [("a", "b"), ("a", "c"), ("b", "y"), ("c", "d"), ("y", "z"), ("d", "z")]
        for order in itertools.permutations(pairs):
            self.assertEqual(road(list(order), "a", "z"), ["a", "b", "y", "z"])

    def test_a_least_first_step_that_leads_too_far_is_not_taken(self):
        pairs = [("s", "a"), ("a", "b"), ("b", "z"), ("s", "x"), ("x", "z"), ("s", "c"), ("c", "s")]
        self.assertEqual(road(pairs, "s", "z"), ["s", "x", "z"])

    def test_figures_stand_ahead_of_letters_and_a_beginning_ahead_of_what_goes_on(self):
        pairs = [("s", "a"), ("s", "9"), ("s", "10"), ("s", "1"), ("a", "z"), ("9", "z"), ("10", "z"), ("1", "z")]
        self.assertEqual(road(pairs, "s", "z"), ["s", "1", "z"])
        self.assertEqual(road([pair for pair in pairs if "1" not in pair], "s", "z"), ["s", "10", "z"])
        self.assertEqual(road([("s", "ab"), ("s", "b"), ("ab", "z"), ("b", "z")], "s", "z"), ["s", "ab", "z"])

    def test_pairs_that_stand_twice_and_labels_paired_with_themselves(self):
        pairs = [("a", "a"), ("a", "b"), ("b", "b"), ("a", "b"), ("b", "c"), ("b", "c"), ("c", "c")]
        self.assertEqual(road(pairs, "a", "c"), ["a", "b", "c"])
        self.assertIsNone(road(pairs, "c", "a"))
        self.assertIsNone(road([("a", "a"), ("a", "a")], "a", "b"))

    def test_rings_among_the_pairs(self):
        pairs = [("a", "b"), ("b", "c"), ("c", "a"), ("c", "d")]
        self.assertEqual(road(pairs, "a", "d"), ["a", "b", "c", "d"])
        self.assertEqual(road(pairs, "b", "a"), ["b", "c", "a"])
        self.assertIsNone(road(pairs, "d", "a"))

    def test_long_roads(self):
        pairs = [("r" + str(number), "r" + str(number + 1)) for number in range(400)]
        self.assertEqual(road(pairs, "r0", "r400"), ["r" + str(number) for number in range(401)])
        self.assertEqual(road(pairs[::-1], "r0", "r400"), ["r" + str(number) for number in range(401)])
        self.assertIsNone(road(pairs, "r400", "r0"))

    def test_against_all_roads_over_many_lists_of_pairs(self):
        source = random.Random(26)
        for many in range(300):
            labels = source.sample(["a", "b", "c", "ab", "a1", "1", "10", "z"], source.randint(2, 6))
            pairs = [(source.choice(labels), source.choice(labels)) for _ in range(source.randint(0, 12))]
            for one in labels:
                for other in labels:
                    self.assertEqual(road(pairs, one, other), best_road(pairs, one, other), (pairs, one, other))

    def test_the_pairs_stay_and_what_is_told_is_the_askers_own(self):
        pairs = [("b", "c"), ("a", "b"), ("a", "b")]
        told = road(pairs, "a", "c")
        self.assertIs(told.__class__, list)
        self.assertEqual(pairs, [("b", "c"), ("a", "b"), ("a", "b")])
        told.append("x")
        told[0] = "y"
        self.assertEqual(road(pairs, "a", "c"), ["a", "b", "c"])
        alone = road(pairs, "a", "a")
        alone.append("b")
        self.assertEqual(road(pairs, "a", "a"), ["a"])
        kept = road(pairs, "a", "c")
        pairs.clear()
        self.assertEqual(kept, ["a", "b", "c"])
        self.assertIsNone(road(pairs, "a", "c"))


if __name__ == "__main__":
    unittest.main()

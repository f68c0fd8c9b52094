"""[96] to [98], what [2] and [4] say of them, and the interface of mostwise/desk.py."""

import random
import unittest

import made
from mostwise.books import Book
from mostwise.desk import Desk
from mostwise.errors import (Decided, Doubled, MostError, NoBeat, NoFact, NoLabel, NoRow, NoStand,
                             NoTurn, Ring, StillOpen, TooMany)
from mostwise.kept import Kept
from mostwise.leaning import leans_on
from mostwise.opens import open_of
from mostwise.papers import paper_of
from mostwise.rules import Fact
from mostwise.turning import turned
from mostwise.weighing import weighed
from odd import no_texts

BIRDS = ["things tux ann", "fact penguin(tux)", "fact bird(ann)", "sure r1: penguin(A) -> bird(A)",
         "most r2: bird(A) -> flies(A)", "most r3: penguin(A) -> -flies(A)", "beats r3 r2"]

OPEN = ["things a", "most a: q -> p", "most b: p -> q", "fact s", "block c: s -> -p", "beats a c"]

NO_LINES = [
    "", " ", "  ", "\n", "nonsense", "rain", "ask", "ask ", " ask p", "ask  p", "ask p ", "ask p q", "ask p(A)", "ask P", "ask -",
    "ask p(a, b)", "ask p\n", "Ask p", "all ", " all", "all p", "alls", "looked ", "looked p", "look", "book ", "book a", "books",
    "take", "take ", "take A", "take a b", "take  a", " take a", "take a ", "take -a", "take p(a)", "take abcdefghi",
    "forget", "forget ", "forget p(A)", "forget p q", "forget P", "forget  p", "forget fact p", "forget p ",
    "unbeat", "unbeat a", "unbeat a b c", "unbeat a  b", "unbeat A b", "unbeat a B", "unbeat  a b", " unbeat a b", "unbeat a b ",
    "beats", "beats a", "beats a b c", "beats  a b", "beats A b", "beats a b ", "beat a b", " beats a b",
    "fact", "fact ", "fact p(A)", "fact p ", " fact p", "fact  p", "sure r -> p", "sure r: p -> q ", "most: -> p", "block b:-> p",
    "sure r: a, b, c, d, e -> p", "sure r: p(A,B) -> q(C,D)", "mostly r: -> p",
    "why", "why ", "why p q", "why p(A)", "why  p", " why p", "why p ", "open", "open ", "open p(A)", "open p q", "open  p",
    "weigh", "weigh p(A)", "weigh p q", "weigh ", "leans", "leans P", "leans p q", "leans p(A)", "turn", "turn p(A)", "turn p q",
    "turns p", "talk", "talk held", "talk p", "talk held p q", "talk sure p", "talk held p(A)", "talk  held p", "talk held  p",
    "talk Held p", "talk held p ", " talk held p", "talk open p", "talk no p",
    "table ", "table p", " table", "stand ", "stand p", " stand", "stand held p", "stands",
    "lay ", "lay  ", " lay", "lay held", "lay p", "lay held p,", "lay held p, ", "lay held p,held q", "lay held p , held q",
    "lay held p held q", "lay held p,  held q", "lay , held p", "lay held p, q", "lay held p(A)", "lay sure p", "lay  held p",
    "lay held  p", "lay held p ", "lay held p, refused", "lay open p", "lay held p; held q", "lays",
    "wish ", "wish 0", " wish", "wishes", "press", "press ", "press a", "press -1", "press +1", "press 01", "press 00", "press 1 2",
    "press 1.0", "press 1000000", "press 0000000", "press  0", " press 0", "press 0 ", "press 1_0", "press True", "press 1e1",
    "press \u0663", "press \u00b2", "press 0x1", "press -0", "things", "things A", "things a a", "things a b c d e f g h i",
    "things a ", " things a", "things  a", "over", "now", "help", "a" * 4000,
]


def begun(rows):
    desk = Desk()
    for row in rows:
        desk.say(row)
    return desk


def kept_by_deeds(book):
    kept = Kept(Book(book.things()))
    for rule in [Fact(fact) for fact in book.facts()] + book.rules():
        kept.put(rule)
    for one, other in book.beats():
        kept.beat(one, other)
    return kept


def told(desk):
    """All that may be seen of a desk that has a book."""
    lines = [desk.say("book"), desk.say("all"), desk.say("looked")]
    for line in ("table", "stand", "wish"):
        try:
            lines.append(desk.say(line))
        except MostError as error:
            lines.append(error.__class__)
    return lines


class DeskTest(unittest.TestCase):
    def refused(self, desk, kind, line):
        with self.assertRaises(MostError) as caught:
            desk.say(line)
        self.assertIs(caught.exception.__class__, kind, line)
        return caught.exception

    def refused_and_unchanged(self, desk, kind, line):
        before = told(desk)
        error = self.refused(desk, kind, line)
        self.assertEqual(told(desk), before)
        return error


class BeginningTest(DeskTest):
    """[96], the row of things, and lines that are none"""

    def test_a_row_of_things_begins_a_book(self):
        desk = Desk()
        self.assertEqual(desk.say("things b a"), [])
        self.assertEqual((desk.say("book"), desk.say("all"), desk.say("looked")), (["things b a"], [], []))

    def test_without_a_book_every_other_line_is_refused(self):
        lines = BIRDS[1:] + NO_LINES + [
            "take a", "forget p", "unbeat a b", "ask p", "all", "looked", "book", "why p", "open p", "weigh p", "leans p", "turn p",
            "talk held p", "table", "stand", "lay", "lay held p", "wish", "press 0"]
        desk = Desk()
        for line in lines:
            self.assertIs(self.refused(desk, NoRow, line).found, line)
        for thing in no_texts():
            self.assertIs(self.refused(desk, NoRow, thing).found, thing)
        self.assertEqual(desk.say("things a"), [])

    def test_lines_that_are_none(self):
        for rows in (["things a b"], BIRDS, BIRDS + ["talk held flies(ann)"],
                     BIRDS + ["talk held flies(ann)", "lay"], BIRDS + ["talk held bird(ann)", "lay"]):
            desk = begun(rows)
            before = told(desk)
            for line in NO_LINES:
                self.assertIs(self.refused(desk, NoRow, line).found, line)
            self.assertEqual(told(desk), before)

    def test_things_of_every_other_kind(self):
        desk = begun(BIRDS)
        for thing in no_texts() + [["ask", "p"], ("things", "a")]:
            self.assertIs(self.refused_and_unchanged(desk, NoRow, thing).found, thing)

    def test_a_new_row_of_things_forgets_book_and_talk(self):
        desk = begun(BIRDS + ["talk held flies(ann)"])
        self.assertEqual(desk.say("table"), ["held flies(ann)"])
        self.assertEqual(desk.say("things a"), [])
        self.assertEqual((desk.say("book"), desk.say("all"), desk.say("looked")), (["things a"], [], []))
        for line in ("table", "stand", "lay", "lay held p", "wish", "press 0"):
            self.refused(desk, NoTurn, line)

    def test_a_row_of_things_that_is_refused_forgets_nothing(self):
        desk = begun(BIRDS + ["talk held flies(ann)"])
        for line in ("things a a", "things", "things A", "things a b c d e f g h i"):
            self.refused_and_unchanged(desk, NoRow, line)
        self.assertEqual(desk.say("table"), ["held flies(ann)"])

    def test_the_answer_is_a_list_of_texts(self):
        desk = Desk()
        for line in BIRDS + ["ask bird(tux)", "all", "looked", "book", "why flies(tux)", "weigh flies(tux)", "leans flies(tux)",
                             "turn flies(tux)", "talk held -flies(tux)", "table", "stand", "lay", "wish", "press 0", "table"]:
            answer = desk.say(line)
            self.assertIs(answer.__class__, list)
            self.assertTrue(all(text.__class__ is str for text in answer))


class DeedsTest(DeskTest):
    """[96], what is put in and taken out"""

    def test_changes_are_told_as_statement_before_and_behind(self):
        desk = begun(["things tux ann"])
        self.assertEqual(desk.say("most r2: bird(A) -> flies(A)"), [])
        self.assertEqual(desk.say("fact bird(tux)"), ["bird(tux) no surely", "flies(tux) no mostly"])
        self.assertEqual(desk.say("most r3: sick(A) -> -flies(A)"), [])
        self.assertEqual(desk.say("fact sick(tux)"), ["flies(tux) mostly no", "sick(tux) no surely"])
        self.assertEqual(desk.say("beats r3 r2"), ["-flies(tux) no mostly"])
        self.assertEqual(desk.say("unbeat r3 r2"), ["-flies(tux) mostly no"])
        self.assertEqual(desk.say("forget sick(tux)"), ["flies(tux) no mostly", "sick(tux) surely no"])
        self.assertEqual(desk.say("take r2"), ["flies(tux) mostly no"])
        self.assertEqual(desk.say("sure s: bird(tux) -> -cold"), ["-cold no surely"])
        self.assertEqual(desk.say("block b: -> cold"), [])
        self.assertEqual(desk.say("book"), ["things tux ann", "fact bird(tux)", "most r3: sick(A) -> -flies(A)",
                                            "sure s: bird(tux) -> -cold", "block b: -> cold"])

    def test_refusals_of_the_book(self):
        desk = begun(BIRDS)
        self.assertEqual(self.refused_and_unchanged(desk, Doubled, "fact bird(ann)").found, "bird(ann)")
        self.assertEqual(self.refused_and_unchanged(desk, Doubled, "block r1: -> p").found, "r1")
        self.assertEqual(self.refused_and_unchanged(desk, NoLabel, "take x").found, "x")
        self.assertEqual(self.refused_and_unchanged(desk, NoFact, "forget flies(ann)").found, "flies(ann)")
        self.assertEqual(self.refused_and_unchanged(desk, NoLabel, "beats x r1").found, "x")
        self.assertEqual(self.refused_and_unchanged(desk, Doubled, "beats r3 r2").found, ("r3", "r2"))
        self.assertEqual(self.refused_and_unchanged(desk, Ring, "beats r2 r3").chain, ["r2", "r3"])
        self.assertEqual(self.refused_and_unchanged(desk, Ring, "beats r2 r2").chain, ["r2"])
        self.assertEqual(self.refused_and_unchanged(desk, NoBeat, "unbeat r2 r3").found, ("r2", "r3"))
        wide = begun(["things a b c d e f g h", "fact p"])
        self.assertEqual(self.refused_and_unchanged(wide, TooMany, "most r: p(A,B) -> q(C)").count, 513)

    def test_looked(self):
        desk = begun(BIRDS)
        self.assertEqual(desk.say("looked"), ["-flies(ann)", "-flies(tux)", "flies(ann)", "flies(tux)"])
        desk.say("forget bird(ann)")
        self.assertEqual(desk.say("looked"), ["-bird(ann)", "-flies(ann)", "bird(ann)", "flies(ann)"])
        self.refused(desk, NoFact, "forget bird(ann)")
        self.assertEqual(desk.say("looked"), ["-bird(ann)", "-flies(ann)", "bird(ann)", "flies(ann)"])

    def test_asking(self):
        desk = begun(BIRDS)
        for q, answer in (("bird(tux)", "surely"), ("flies(ann)", "mostly"), ("flies(tux)", "no"), ("-flies(tux)", "mostly"),
                          ("x", "no"), ("-x(a,b)", "no")):
            self.assertEqual(desk.say("ask " + q), [answer])
        self.assertEqual(begun(OPEN).say("ask p"), ["open"])

    def test_all(self):
        self.assertEqual(begun(OPEN).say("all"), ["-p no", "-q no", "-s no", "p open", "q open", "s surely"])

    def test_the_book(self):
        self.assertEqual(begun(BIRDS).say("book"), BIRDS)

    def test_any_row_of_lines_against_a_kept_book(self):
        for number in range(40):
            source = random.Random(number)
            book = made.book(number)
            desk, kept = begun(book.text().split("\n")), kept_by_deeds(book)
            for _ in range(12):
                book = kept.book()
                labels = [rule.label for rule in book.rules()] + ["x"]
                one, other = source.choice(labels), source.choice(labels)
                fact = source.choice(book.facts() + ["p", "-q(a)"])
                line, deed, values = source.choice([
                    ("take " + one, kept.take, (one,)), ("forget " + fact, kept.forget, (fact,)),
                    ("beats " + one + " " + other, kept.beat, (one, other)),
                    ("unbeat " + one + " " + other, kept.unbeat, (one, other))])
                try:
                    wanted = [" ".join(change) for change in deed(*values)]
                    self.assertEqual(desk.say(line), wanted)
                except MostError as error:
                    self.refused(desk, error.__class__, line)
                self.assertEqual(desk.say("looked"), kept.looked())
                self.assertEqual(desk.say("all"), [" ".join(entry) for entry in kept.listed()])
                self.assertEqual(desk.say("book"), kept.book().text().split("\n"))


class ShowingTest(DeskTest):
    """[97]"""

    def test_why(self):
        desk = begun(["things a", "fact p", "sure r: p -> q", "most m: q -> s"])
        self.assertEqual(desk.say("why p"), ["sure p", "sure q", "held p"])
        lines = desk.say("why s")
        self.assertEqual((lines[:2], lines[-1]), (["sure p", "sure q"], "held s"))
        self.assertIn("held q", lines)
        self.assertEqual(desk.say("why x"), ["sure p", "sure q", "refused x"])
        self.assertEqual(desk.say("why -p")[-1], "refused -p")

    def test_why_is_refused_of_what_is_open(self):
        self.assertEqual(self.refused_and_unchanged(begun(OPEN), StillOpen, "why p").found, "p")

    def test_what_holds_open(self):
        lines = begun(OPEN).say("open p")
        self.assertEqual((lines[0], lines[-2:]), ("sure s", ["open p", "open q"]))
        self.assertEqual(sorted(lines[1:-2]), ["held s", "refused -p", "refused -q", "refused -s"])
        for q in ("s", "-p", "x"):
            self.assertEqual(self.refused_and_unchanged(begun(OPEN), Decided, "open " + q).found, q)

    def test_weigh(self):
        desk = begun(BIRDS)
        self.assertEqual(desk.say("weigh flies(tux)"), ["for r2 stands", "against r3 stands"])
        self.assertEqual(desk.say("weigh -flies(tux)"), ["for r3 stands", "against r2 stands 0"])
        self.assertEqual(desk.say("weigh flies(ann)"), ["for r2 stands", "against r3 falls"])
        self.assertEqual(desk.say("weigh bird(ann)"), ["for . stands", "for r1 falls"])
        self.assertEqual(desk.say("weigh -bird(ann)"), ["against . stands", "against r1 falls"])
        self.assertEqual(desk.say("weigh x"), [])
        self.assertEqual(begun(OPEN).say("weigh p"), ["for a open", "against c stands 0"])

    def test_weigh_with_several_beaters(self):
        desk = begun(["things a", "most a: -> p", "fact p", "most b: -> p", "most c: -> -p", "beats a c", "beats b c"])
        self.assertEqual(desk.say("weigh p"), ["for . stands", "for a stands", "for b stands", "against c stands 1 2"])

    def test_leans(self):
        self.assertEqual(begun(BIRDS).say("leans bird(tux)"), ["-bird(tux)", "-penguin(tux)", "bird(tux)", "penguin(tux)"])
        self.assertEqual(begun(BIRDS).say("leans x"), ["-x", "x"])

    def test_turn(self):
        desk = begun(BIRDS)
        self.assertEqual(desk.say("turn flies(ann)"), ["bird(ann)"])
        self.assertEqual(desk.say("turn x"), ["-"])
        self.assertEqual(begun(["things a", "fact p", "fact q", "most a: p -> s", "most b: q -> s"]).say("turn s"), ["p", "q"])
        names = ["x" + sign for sign in "abcdefghijklm"]
        full = begun(["things a"] + ["fact " + name for name in names] + ["most " + name + ": " + name + " -> q" for name in names])
        self.assertEqual(self.refused_and_unchanged(full, TooMany, "turn q").count, 13)

    def test_against_the_stages(self):
        for number in range(60):
            book = made.book(number)
            desk, ground = begun(book.text().split("\n")), Kept(book).ground()
            for q in ground.statements() + ["x"]:
                self.assertEqual(desk.say("leans " + q), leans_on(ground, q))
                self.assertEqual(desk.say("turn " + q), list(turned(book, q) or "-"))
                speaking, against = weighed(ground, q)
                self.assertEqual(desk.say("weigh " + q), [
                    " ".join(["for", label or ".", state]) for label, state in speaking] + [
                    " ".join(["against", label or ".", state] + [str(at) for at in beaters])
                    for label, state, beaters in against])
                if desk.say("ask " + q) == ["open"]:
                    sures, rows, some = open_of(ground, q)
                    self.assertEqual(desk.say("open " + q), ["sure " + one for one in sures] + [" ".join(row) for row in rows]
                                     + ["open " + one for one in some])
                    self.refused(desk, StillOpen, "why " + q)
                else:
                    sures, rows = paper_of(ground, q)
                    self.assertEqual(desk.say("why " + q), ["sure " + one for one in sures] + [" ".join(row) for row in rows])
                    self.refused(desk, Decided, "open " + q)

    def test_showing_changes_nothing(self):
        desk = begun(BIRDS + ["talk held flies(ann)", "lay"])
        before = told(desk)
        for line in ("ask p", "all", "why flies(ann)", "weigh flies(ann)", "leans flies(ann)", "turn flies(ann)", "book"):
            desk.say(line)
        self.assertEqual(told(desk), before)


CHAIN = ["things a", "fact p", "most a: p -> q", "most b: q -> s", "block c: t -> -s"]


class TalkTest(DeskTest):
    """[98]"""

    def test_without_a_talk_its_lines_are_refused(self):
        desk = begun(CHAIN)
        for line in ("table", "stand", "lay", "lay held p", "lay held p, refused q", "wish", "press 0", "press 999999"):
            self.refused_and_unchanged(desk, NoTurn, line)

    def test_what_is_no_line_is_refused_with_no_row_ahead_of_no_turn(self):
        desk = begun(CHAIN)
        for line in ("press 01", "press", "lay sure p", "lay held p(A)", "wish 1", "table x", "stand "):
            self.assertEqual(self.refused(desk, NoRow, line).found, line)

    def test_a_talk_from_beginning_to_end(self):
        desk = begun(CHAIN)
        self.assertEqual(desk.say("talk held s"), [])
        self.assertEqual(desk.say("table"), ["held s"])
        self.assertEqual(sorted(desk.say("stand")), ["held q", "refused t"])
        self.assertEqual(desk.say("lay refused t, held q"), ["refused t", "held q"])
        self.assertEqual((desk.say("table"), desk.say("wish")), (["held s"], ["-"]))
        self.assertEqual(desk.say("press 1"), ["held q"])
        self.assertEqual(desk.say("table"), ["held q"])
        self.assertEqual(desk.say("lay"), ["held p"])
        self.assertEqual(desk.say("press 0"), ["held p"])
        self.assertEqual(desk.say("stand"), [])
        self.assertEqual(desk.say("lay"), [])
        self.assertEqual(desk.say("table"), ["over"])
        self.assertEqual(desk.say("stand"), [])
        for line in ("lay", "lay held p", "wish", "press 0"):
            self.refused_and_unchanged(desk, NoTurn, line)

    def test_lay_tells_the_premises_as_they_were_laid(self):
        desk = begun(CHAIN + ["talk held q"])
        self.assertEqual(desk.say("lay held x, held p, held x"), ["held x", "held p", "held x"])
        self.assertEqual(desk.say("wish"), ["0"])
        self.assertEqual(desk.say("press 2"), ["held x"])

    def test_a_claim_that_is_not_so(self):
        desk = begun(CHAIN + ["talk refused s"])
        self.assertEqual(desk.say("table"), ["refused s"])
        for line in ("stand", "lay"):
            self.assertEqual(self.refused_and_unchanged(desk, NoStand, line).found, ("refused", "s"))
        self.assertEqual(desk.say("lay held x, held t"), ["held x", "held t"])
        self.assertEqual(desk.say("wish"), ["0"])
        self.assertEqual(self.refused_and_unchanged(desk, NoStand, "stand").found, ("refused", "s"))
        self.refused_and_unchanged(desk, NoTurn, "lay")
        self.assertEqual(desk.say("press 1"), ["held t"])
        for line in ("stand", "lay", "lay held x"):
            self.assertEqual(self.refused_and_unchanged(desk, NoStand, line).found, ("held", "t"))

    def test_an_open_claim_is_not_so(self):
        desk = begun(OPEN + ["talk held p"])
        for line in ("stand", "lay"):
            self.assertEqual(self.refused_and_unchanged(desk, NoStand, line).found, ("held", "p"))
        self.assertEqual(desk.say("lay held q"), ["held q"])
        self.assertEqual(desk.say("wish"), ["0"])

    def test_what_does_not_follow(self):
        desk = begun(CHAIN + ["talk held s"])
        for line in ("lay held q", "lay refused t", "lay held s", "lay refused q, refused t"):
            self.assertEqual(self.refused_and_unchanged(desk, NoStand, line).found, ("held", "s"))

    def test_no_turn_comes_ahead_of_no_stand(self):
        desk = begun(CHAIN + ["talk held q", "lay"])
        for line in ("lay", "lay held p", "lay held x"):
            self.refused_and_unchanged(desk, NoTurn, line)
        desk = begun(CHAIN + ["talk held q"])
        for line in ("wish", "press 0", "press 7"):
            self.refused_and_unchanged(desk, NoTurn, line)

    def test_places(self):
        desk = begun(CHAIN + ["talk held q", "lay"])
        for number in (1, 2, 10, 99, 999999):
            error = self.refused_and_unchanged(desk, NoStand, "press " + str(number))
            self.assertEqual((error.found, error.found.__class__), (number, int))
        premises = ", ".join(["held p"] * 12)
        desk = begun(CHAIN + ["talk held q", "lay " + premises + ", held x"])
        self.assertEqual(desk.say("wish"), ["12"])
        self.assertEqual(desk.say("press 12"), ["held x"])

    def test_numbers_are_made_of_figures_alone(self):
        desk = begun(CHAIN + ["talk held q", "lay"])
        for sign in [chr(code) for code in range(32, 127)]:
            for number in (sign, "1" + sign, sign + "1"):
                figures = number.isdigit() and (number == "0" or number[0] != "0")
                if number != "0":
                    self.refused(desk, NoStand if figures else NoRow, "press " + number)
        self.assertEqual(desk.say("press 0"), ["held p"])

    def test_a_talk_about_what_stands_nowhere(self):
        desk = begun(["things a", "talk refused x"])
        self.assertEqual((desk.say("stand"), desk.say("lay"), desk.say("table")), ([], [], ["over"]))

    def test_a_new_talk_forgets_the_old_one(self):
        desk = begun(CHAIN + ["talk held q", "lay"])
        self.assertEqual(desk.say("talk refused -p"), [])
        self.assertEqual(desk.say("table"), ["refused -p"])
        self.refused(desk, NoTurn, "wish")
        desk.say("lay")
        self.assertEqual(desk.say("table"), ["over"])
        desk.say("talk held q")
        self.assertEqual(desk.say("table"), ["held q"])

    def test_a_line_that_begins_no_talk_forgets_none(self):
        desk = begun(CHAIN + ["talk held q"])
        for line in ("talk held", "talk held p(A)", "talk sure p"):
            self.refused_and_unchanged(desk, NoRow, line)
        self.assertEqual(desk.say("table"), ["held q"])

    def test_a_talk_is_not_touched_by_later_deeds(self):
        desk = begun(CHAIN + ["talk held q"])
        self.assertEqual(desk.say("forget p"), ["p surely no", "q mostly no", "s mostly no"])
        self.assertEqual(desk.say("stand"), ["held p"])
        self.assertEqual(desk.say("lay"), ["held p"])
        desk.say("take a")
        self.assertEqual(desk.say("wish"), ["-"])
        self.assertEqual(desk.say("press 0"), ["held p"])
        self.assertEqual(desk.say("lay"), [])
        self.assertEqual(desk.say("table"), ["over"])
        desk.say("talk held q")
        self.assertEqual(self.refused(desk, NoStand, "stand").found, ("held", "q"))

    def test_a_talk_does_not_touch_the_book(self):
        desk = begun(CHAIN)
        before = told(desk)[:3]
        for line in ("talk held q", "lay", "press 0", "lay"):
            desk.say(line)
        self.assertEqual(told(desk)[:3], before)


class OwnTest(DeskTest):
    """[2]"""

    def test_lists_that_are_told_are_the_askers_own(self):
        desk = begun(CHAIN + ["talk held q"])
        for line in ("all", "looked", "book", "ask p", "why q", "weigh q", "leans q", "turn q", "table", "stand"):
            wanted = desk.say(line)
            desk.say(line).append("x")
            desk.say(line).clear()
            self.assertEqual(desk.say(line), wanted)
        laid = desk.say("lay")
        laid.clear()
        self.assertEqual(desk.say("press 0"), ["held p"])

    def test_two_desks_share_nothing(self):
        one, other = begun(CHAIN), begun(CHAIN)
        one.say("forget p")
        one.say("talk held p")
        self.assertEqual(other.say("ask p"), ["surely"])
        self.refused(other, NoTurn, "table")


if __name__ == "__main__":
    unittest.main()

"""[11] to [15], what [2] and [3] say of them, and the interface of mostwise/words.py."""

import string
import unittest

from mostwise.errors import NoStatement
from mostwise.words import (filled, is_label, is_letter, is_name, letters_of, opposite, parts_of,
                            text_of)
from odd import no_texts

SMALL = string.ascii_lowercase
GREAT = string.ascii_uppercase
FIGURES = string.digits

# Signs that Python's own tests for letters and figures would let by, and blanks of all sorts.
FOREIGN = ["\u00e4", "\u00df", "\u00aa", "\u0430", "\u0391", "\u00b2", "\u0663", "\uff41", "\uff21",
           "\u0131", "\u2170", "\U0001d41a", "\u00a0", "\n", "\t", "\r", "\x00", "\x7f", "\ud800"]

STATEMENTS = {
    "rain": ("", "rain", ()),
    "-rain": ("-", "rain", ()),
    "p": ("", "p", ()),
    "-p": ("-", "p", ()),
    "abcdefgh": ("", "abcdefgh", ()),
    "flies(ann)": ("", "flies", ("ann",)),
    "-flies(ann)": ("-", "flies", ("ann",)),
    "p(a)": ("", "p", ("a",)),
    "p(A)": ("", "p", ("A",)),
    "p(Z)": ("", "p", ("Z",)),
    "p(abcdefgh)": ("", "p", ("abcdefgh",)),
    "likes(ann,bob)": ("", "likes", ("ann", "bob")),
    "-likes(ann,X)": ("-", "likes", ("ann", "X")),
    "likes(X,ann)": ("", "likes", ("X", "ann")),
    "likes(X,Y)": ("", "likes", ("X", "Y")),
    "likes(Y,X)": ("", "likes", ("Y", "X")),
    "likes(X,X)": ("", "likes", ("X", "X")),
    "likes(ann,ann)": ("", "likes", ("ann", "ann")),
    "p(p,p)": ("", "p", ("p", "p")),
    "-abcdefgh(stuvwxyz,abcdefgh)": ("-", "abcdefgh", ("stuvwxyz", "abcdefgh")),
    "zzzzzzzz(z,Z)": ("", "zzzzzzzz", ("z", "Z")),
}

NO_STATEMENTS = [
    "", "-", "--", "--rain", "- rain", " rain", "rain ", "rain-", "ra in", "ra-in", "+rain", "~rain",
    "abcdefghi", "-abcdefghi", "Rain", "rAin", "R", "-R", "rain1", "1rain", "0", "ra_in", "rain.",
    "(", ")", "()", "-()", "(a)", "-(a)", "(a,b)", "rain(", "rain)", "rain()", "-rain()", "()rain",
    "p(a", "pa)", "p(a))", "p((a)", "p((a))", "p(a)(b)", "p(a)b", "p(a)-", "p(a) ", " p(a)", "p (a)",
    "p( a)", "p(a )", "p(a, b)", "p(a ,b)", "p(a,b) ", "p(,)", "p(a,)", "p(,a)", "p(a,,b)", "p(,a,b)",
    "p(a,b,)", "p(a,b,c)", "p(A,B,C)", "p(a,b,c,d)", "p(-a)", "-p(-a)", "p(a,-b)", "p(a1)", "p(1)",
    "p(a,1)", "p(AB)", "p(a,AB)", "p(Aa)", "p(aA)", "p(abcdefghi)", "p(a,abcdefghi)", "p(A,abcdefghi)",
    "abcdefghi(a)", "P(a)", "p1(a)", "-P", "p(a;b)", "p[a]", "p{a}", "p(a]", "p<a>", "p(a(b))", "p(a,b(c))",
    "p(q)r(s)", "p,q", "p(a),q(b)", "p(a)\n", "\np(a)", "rain\n", "rain\r", "rain\t", "p(a\n)", "p(a,\nb)",
    "rain\x00", "fact rain", "p->q", "p:q", "'p'", '"p"', "None", "a" * 4000, "p(" * 2000, "p(" + "a," * 1999 + ")",
]


def refused(thing):
    try:
        parts_of(thing)
    except NoStatement as error:
        return error.found is thing
    return False


class KindsOfWordsTest(unittest.TestCase):
    """[11]"""

    def test_a_name_has_one_to_eight_small_signs(self):
        for thing in ["a", "z", "az", "rain", "abcdefg", "abcdefgh", "zzzzzzzz", "if", "none"]:
            self.assertIs(is_name(thing), True, thing)

    def test_a_label_has_figures_too(self):
        for thing in ["a", "z", "0", "9", "r1", "1r", "rain", "abcd0189", "99999999", "00000000", "abcdefgh"]:
            self.assertIs(is_label(thing), True, thing)

    def test_a_letter_is_one_great_sign(self):
        for thing in GREAT:
            self.assertIs(is_letter(thing), True, thing)

    def test_each_length(self):
        for length in range(12):
            self.assertIs(is_name("a" * length), 1 <= length <= 8, length)
            self.assertIs(is_label("a" * length), 1 <= length <= 8, length)
            self.assertIs(is_label("7" * length), 1 <= length <= 8, length)
            self.assertIs(is_letter("A" * length), length == 1, length)

    def test_long_texts_are_none(self):
        for asked, sign in ((is_name, "a"), (is_label, "1"), (is_letter, "A")):
            self.assertIs(asked(sign * 4000), False)

    def test_each_sign_by_itself_and_at_each_place(self):
        for sign in [chr(code) for code in range(256)] + FOREIGN:
            self.assertIs(is_letter(sign), sign in GREAT, ascii(sign))
            for text in (sign, sign + "ab", "a" + sign + "b", "ab" + sign):
                self.assertIs(is_name(text), sign in SMALL, ascii(text))
                self.assertIs(is_label(text), sign in SMALL + FIGURES, ascii(text))

    def test_a_letter_is_neither_name_nor_label_and_names_are_no_letters(self):
        self.assertEqual((is_name("A"), is_label("A")), (False, False))
        self.assertEqual((is_letter("a"), is_letter("0"), is_letter("AB"), is_letter("")), (False,) * 4)

    def test_statements_are_no_names(self):
        for text in ["-rain", "p(a)", "p(a,b)"]:
            self.assertEqual((is_name(text), is_label(text), is_letter(text)), (False,) * 3, text)

    def test_things_of_every_other_kind(self):
        for asked in (is_name, is_label, is_letter):
            for number, thing in enumerate(no_texts()):
                self.assertIs(asked(thing), False, (asked.__name__, number))


class PartsTest(unittest.TestCase):
    """[12] and [13]"""

    def test_each_statement_has_its_parts(self):
        for statement, parts in STATEMENTS.items():
            self.assertEqual(parts_of(statement), parts)

    def test_the_parts_are_a_tuple_of_two_texts_and_a_tuple(self):
        for statement in STATEMENTS:
            parts = parts_of(statement)
            self.assertEqual([part.__class__ for part in (parts,) + parts], [tuple, str, str, tuple])
            self.assertEqual([place.__class__ for place in parts[2]], [str] * len(parts[2]))

    def test_the_parts_give_the_statement_again(self):
        for statement, parts in STATEMENTS.items():
            self.assertEqual(text_of(*parts), statement)
            self.assertEqual(text_of(*parts_of(statement)), statement)

    def test_each_length_of_a_name_and_of_a_thing(self):
        for length in range(12):
            word = "b" * length
            for statement in (word, "-" + word, word + "(a)", word + "(A,b)",
                              "p(" + word + ")", "p(" + word + ",a)", "-p(A," + word + ")"):
                if 1 <= length <= 8:
                    self.assertEqual(text_of(*parts_of(statement)), statement)
                else:
                    self.assertTrue(refused(statement), statement)

    def test_what_is_no_statement_is_refused_with_it(self):
        for text in NO_STATEMENTS:
            self.assertTrue(refused(text), ascii(text[:40]))

    def test_one_sign_too_few(self):
        for statement in STATEMENTS:
            for at in range(len(statement)):
                self.one_way_or_the_other(statement[:at] + statement[at + 1:])

    def test_one_sign_too_many_or_another_one(self):
        signs = [chr(code) for code in range(32, 127)] + FOREIGN
        for statement in ("-p(a,B)", "rain", "likes(X,Y)", "abcdefgh(abcdefgh)"):
            for at in range(len(statement) + 1):
                for sign in signs:
                    self.one_way_or_the_other(statement[:at] + sign + statement[at:])
                    self.one_way_or_the_other(statement[:at] + sign + statement[at + 1:])

    def one_way_or_the_other(self, text):
        if is_statement(text):
            self.assertEqual(text_of(*parts_of(text)), text)
        else:
            self.assertTrue(refused(text), ascii(text))

    def test_things_of_every_other_kind_are_refused_with_the_very_thing(self):
        for number, thing in enumerate(no_texts()):
            self.assertTrue(refused(thing), number)

    def test_a_thing_that_is_refused_stays_as_it_was(self):
        thing = ["rain"]
        self.assertTrue(refused(thing))
        self.assertEqual(thing, ["rain"])

    def test_the_same_name_with_unlike_places_is_unlike(self):
        self.assertEqual(len({parts_of(text) for text in ("p", "p(a)", "p(a,b)", "p(b,a)", "-p", "p(A)")}), 6)


def is_statement(text):
    """Another way to say [12], for texts that are one sign off."""
    body = text[1:] if text[:1] == "-" else text
    words = [body]
    if body[-1:] == ")":
        cut = body.find("(")
        if cut < 0:
            return False
        places = body[cut + 1:-1].split(",")
        if len(places) > 2:
            return False
        words = [body[:cut]] + places
    small = [0 < len(word) < 9 and set(word) <= set(SMALL) for word in words]
    great = [len(word) == 1 and word in GREAT for word in words]
    return small[0] and all(one or other for one, other in zip(small[1:], great[1:]))


class OppositeTest(unittest.TestCase):
    """[14]"""

    def test_a_dash_comes_or_goes(self):
        self.assertEqual(opposite("rain"), "-rain")
        self.assertEqual(opposite("-rain"), "rain")
        self.assertEqual(opposite("flies(ann)"), "-flies(ann)")
        self.assertEqual(opposite("-likes(ann,X)"), "likes(ann,X)")

    def test_the_opposite_has_the_other_side_and_else_the_same_parts(self):
        for statement, parts in STATEMENTS.items():
            side = "" if parts[0] == "-" else "-"
            self.assertEqual(parts_of(opposite(statement)), (side, parts[1], parts[2]))

    def test_the_opposite_of_the_opposite_is_the_statement(self):
        for statement in STATEMENTS:
            self.assertEqual(opposite(opposite(statement)), statement)
            self.assertNotEqual(opposite(statement), statement)


class LettersTest(unittest.TestCase):
    """[15], the letters"""

    def test_in_the_order_in_which_they_first_stand(self):
        self.assertEqual(letters_of("likes(X,Y)"), ["X", "Y"])
        self.assertEqual(letters_of("likes(Y,X)"), ["Y", "X"])
        self.assertEqual(letters_of("-likes(Z,A)"), ["Z", "A"])

    def test_each_once(self):
        self.assertEqual(letters_of("likes(X,X)"), ["X"])

    def test_things_and_names_are_none(self):
        for statement in ("rain", "-rain", "p(a)", "-p(a,b)", "x(x,x)"):
            self.assertEqual(letters_of(statement), [])
        self.assertEqual(letters_of("p(ann,X)"), ["X"])
        self.assertEqual(letters_of("-p(X,ann)"), ["X"])
        self.assertEqual(letters_of("p(X)"), ["X"])

    def test_a_told_list_is_new_and_the_askers_own(self):
        told = letters_of("likes(X,Y)")
        self.assertIs(told.__class__, list)
        told.append("Z")
        told[0] = "W"
        self.assertEqual(letters_of("likes(X,Y)"), ["X", "Y"])
        self.assertIsNot(letters_of("p"), letters_of("p"))
        nothing = letters_of("p")
        nothing.append("Q")
        self.assertEqual(letters_of("p"), [])


class FilledTest(unittest.TestCase):
    """[15], filling"""

    def test_letters_that_the_dict_has_are_put_otherwise(self):
        self.assertEqual(filled("p(X)", {"X": "ann"}), "p(ann)")
        self.assertEqual(filled("-likes(X,Y)", {"X": "ann", "Y": "bob"}), "-likes(ann,bob)")
        self.assertEqual(filled("likes(Y,X)", {"X": "ann", "Y": "bob"}), "likes(bob,ann)")

    def test_the_same_letter_twice_and_two_letters_for_one_thing(self):
        self.assertEqual(filled("likes(X,X)", {"X": "ann"}), "likes(ann,ann)")
        self.assertEqual(filled("likes(X,Y)", {"X": "ann", "Y": "ann"}), "likes(ann,ann)")

    def test_other_letters_stay(self):
        self.assertEqual(filled("likes(X,Y)", {"X": "ann"}), "likes(ann,Y)")
        self.assertEqual(filled("likes(X,Y)", {"Y": "ann"}), "likes(X,ann)")
        self.assertEqual(filled("likes(X,Y)", {"Z": "ann"}), "likes(X,Y)")

    def test_side_name_and_things_stay(self):
        given = {"X": "ann", "x": "bob", "p": "q", "ann": "bob", "-": "", "": "a"}
        self.assertEqual(filled("-p(x,X)", given), "-p(x,ann)")
        self.assertEqual(filled("p(ann,p)", given), "p(ann,p)")
        self.assertEqual(filled("-x", given), "-x")

    def test_by_no_letters_and_without_places_nothing_is_done(self):
        for statement in STATEMENTS:
            self.assertEqual(filled(statement, {}), statement)
        self.assertEqual(filled("rain", {"X": "ann"}), "rain")

    def test_the_dict_stays_as_it_was_and_may_be_changed_behind(self):
        given = {"X": "ann"}
        told = filled("likes(X,Y)", given)
        self.assertEqual(given, {"X": "ann"})
        given["X"] = "bob"
        given["Y"] = "bob"
        self.assertEqual(told, "likes(ann,Y)")


if __name__ == "__main__":
    unittest.main()

"""Point [7]; promise 12 of the stage about layouts."""

import itertools
import re
import unittest

from shuntplan.layouts import Layout
from tests.samples import ANY_VALUES, NAMES, Case, all_layouts

WAGON = "-?[a-z]{1,8}"
TRAIN = f"({WAGON}( {WAGON})*|\\({WAGON}( {WAGON})*\\))"
READABLE = re.compile(f"({TRAIN}( / {TRAIN})*)?")
SEVEN = "abcdefg"
LONGER = [SEVEN + letter for letter in "abcdefghijklmnopqrstuvwxyz"]


def is_readable(text):
    """The definition, in other words than the program's."""
    names = re.findall("[a-z]+", text)
    return READABLE.fullmatch(text) is not None and len(set(names)) == len(names) <= 30


def tails():
    """What may complete a short prefix, if anything may: some more of a name, then another wagon, then a bracket."""
    more = ["", "q", "qq", "-q", " / q", "/ q", " q", "(q", "b", " "]
    return sorted({one + other for one in more for other in ["", ")"]}, key=len)


TAILS = tails()


def longest_prefix(text):
    """The length of the longest prefix that can be continued, found by trying."""
    lengths = [
        length for length in range(len(text) + 1)
        if any([is_readable(text[:length] + tail) for tail in TAILS])
    ]
    return max(lengths)


def readings(row):
    turned = [word[1:] if word.startswith("-") else "-" + word for word in row[::-1]]
    return [row, turned]


class ReadTest(Case):
    def test_examples(self):
        self.assertEqual(Layout.read("c / -b -a").text(), "a b / c")
        self.assert_offset(Layout.read, "a b a", 5)

    def test_text_that_is_read(self):
        for text, normal in [
            ("", ""), ("a", "a"), ("-a", "a"), ("(a)", "(a)"), ("(-a)", "(a)"), ("b a", "-a -b"), ("b -a", "a -b"),
            ("(b a)", "(a b)"), ("(c b a)", "(a c b)"), ("(-b a)", "(a -b)"), ("(b) / a", "a / (b)"),
            ("c / (-b d) / a", "a / (b -d) / c"), ("abcdefgh", "abcdefgh"), ("ab a", "-a -ab"),
            ("zzzzzzzz / -a / (-m)", "a / (m) / zzzzzzzz"),
        ]:
            with self.subTest(text):
                self.assertEqual(Layout.read(text).text(), normal)
                self.assertEqual(Layout.read(normal).text(), normal)
                self.assertEqual(Layout.read(text=text), Layout.read(normal))

    def test_couplings_that_are_read(self):
        layout = Layout.read("c -a / (b)")
        self.assertEqual(layout.wagons, ("a", "b", "c"))
        self.assertEqual(layout.couplings, ((("a", 1), ("c", 1)), (("b", 0), ("b", 1))))

    def test_each_reading_of_each_train(self):
        for layout in all_layouts("abc"):
            parts = []
            for train in layout.text().split(" / "):
                if train.startswith("("):
                    both = readings(train[1:-1].split(" "))
                    turns = [row[at:] + row[:at] for row in both for at in range(len(row))]
                    parts.append(["(" + " ".join(row) + ")" for row in turns])
                else:
                    parts.append([" ".join(row) for row in readings(train.split(" "))])
            for chosen in itertools.product(*parts):
                for order in itertools.permutations(chosen):
                    self.assertEqual(Layout.read(" / ".join(order)), layout)


class OffsetTest(Case):
    def test_values_that_are_no_strings(self):
        for value in ANY_VALUES:
            if not isinstance(value, str):
                self.assert_offset(Layout.read, value, 0)

    def test_wrong_characters(self):
        for text, offset in [
            ("A", 0), (" ", 0), ("\n", 0), ("1", 0), ("/", 0), (")", 0), (" a", 0), ("a\n", 1), ("aB", 1), ("a1", 1),
            ("a-b", 1), ("a/b", 1), ("a)", 1), ("a(", 1), ("--a", 1), ("- a", 1), ("-(a)", 1), ("-)", 1), ("()", 1),
            ("( a)", 1), ("((a))", 1), ("(/", 1), ("a  b", 2), ("a )", 2), ("a (b)", 2), ("a\t", 1), ("a b\n", 3),
            ("(a))", 3), ("(a)b", 3), ("(a)-", 3), ("(a )", 3), ("(a / b)", 3), ("(a (b))", 3), ("a /b", 3),
            ("a //", 3), ("(a) b", 4), ("(a) -b", 4), ("(a) (b)", 4), ("a /  b", 4), ("a / / b", 4), ("a / )", 4),
            ("(a) /b", 5), ("a b / c d)", 9), ("a - b", 3), ("a -- b", 3), ("(a b", 4), ("a, b", 1), ("a.b", 1),
        ]:
            self.assert_offset(Layout.read, text, offset)

    def test_texts_that_are_cut_off(self):
        for text in ("-", "(", "a ", "a -", "a /", "a / ", "a / -", "a / (", "(a", "(-", "(a ", "(a -", "(a b", "(a) ",
                     "(a) /", "(a) / ", "(a) / (b"):
            self.assert_offset(Layout.read, text, len(text))

    def test_names_of_eight_and_nine_letters(self):
        self.assertEqual(Layout.read("abcdefgh").wagons, ("abcdefgh",))
        self.assert_offset(Layout.read, "abcdefghi", 8)
        self.assert_offset(Layout.read, "a / (-abcdefghi)", 14)
        self.assert_offset(Layout.read, "abcdefgh abcdefgh", 16)
        self.assert_offset(Layout.read, "abcdefgh / -abcdefgh", 19)
        self.assert_offset(Layout.read, "abcdefgh (", 9)

    def test_a_name_twice(self):
        for text, offset in [
            ("a b a", 5), ("a a", 3), ("a -a", 4), ("a / a", 5), ("(a) / a", 7), ("(a a)", 4), ("(a a", 4),
            ("a a b", 3), ("a a / b", 3), ("a / (a)", 6), ("a / (a b)", 6), ("a b a\n", 5), ("ab / ab", 7), ("a a)", 3),
            ("(-a -a)", 6),
        ]:
            self.assert_offset(Layout.read, text, offset)
        self.assertEqual(Layout.read("a aa aaa").wagons, ("a", "aa", "aaa"))
        self.assertEqual(Layout.read("aaa aa a").wagons, ("a", "aa", "aaa"))

    def test_thirty_wagons(self):
        names = NAMES[:30]
        line, ring, lines = " ".join(names), "(" + " ".join(names) + ")", " / ".join(names)
        rings = " / ".join(["(" + name + ")" for name in names])
        for text in (line, ring, lines, rings):
            self.assertEqual(len(Layout.read(text).wagons), 30)
            for more in (" ", " /", " / b", " zz", " / zz", " / (zz)"):
                self.assert_offset(Layout.read, text + more, len(text))
        for more in (" ", " zz)", " -zz)", " / zz"):
            self.assert_offset(Layout.read, ring[:-1] + more, len(ring) - 1)
        self.assert_offset(Layout.read, ring[:-1], len(ring) - 1)
        self.assert_offset(Layout.read, lines[:-1] + " / zz", len(lines) - 1)

    def test_the_thirtieth_name_may_still_grow(self):
        text = " / ".join(NAMES[:29])
        self.assert_offset(Layout.read, text + " / a", len(text) + 4)
        self.assert_offset(Layout.read, text + " / a b", len(text) + 4)
        self.assert_offset(Layout.read, text + " (", len(text) + 1)
        self.assertEqual(len(Layout.read(text + " / azzzzzzz").wagons), 30)

    def test_a_name_that_cannot_be_continued_at_all(self):
        for between in (" ", " / "):
            used = between.join([SEVEN] + LONGER) + between
            self.assert_offset(Layout.read, used + SEVEN, len(used) + 6)
            self.assert_offset(Layout.read, used + LONGER[0], len(used) + 6)
            self.assert_offset(Layout.read, used + "-" + SEVEN, len(used) + 7)
            self.assertEqual(len(Layout.read(used + SEVEN[:6]).wagons), 28)

    def test_a_name_of_which_one_longer_name_is_left(self):
        for left in range(26):
            some = [name for at, name in enumerate(LONGER) if at != left]
            used = " / ".join([SEVEN] + some) + " / "
            self.assert_offset(Layout.read, used + SEVEN, len(used) + 7)
            self.assert_offset(Layout.read, used + SEVEN + " ", len(used) + 7)
            self.assert_offset(Layout.read, used + some[3], len(used) + 7)
            self.assertEqual(len(Layout.read(used + LONGER[left]).wagons), 27)

    def test_all_longer_names_without_the_short_one(self):
        used = " ".join(LONGER) + " "
        self.assertEqual(len(Layout.read(used + SEVEN).wagons), 27)
        self.assert_offset(Layout.read, used + LONGER[5], len(used) + 7)

    def test_short_names_always_find_a_longer_one(self):
        short = ["a"] + ["a" + letter for letter in "abcdefghijklmnopqrstuvwxyz"]
        used = " / ".join(short) + " / "
        self.assert_offset(Layout.read, used + "a", len(used) + 1)
        self.assert_offset(Layout.read, used + "ab", len(used) + 2)
        six = ["aaaaaa"] + ["aaaaaa" + letter for letter in "abcdefghijklmnopqrstuvwxyz"]
        used = " ".join(six) + " "
        self.assert_offset(Layout.read, used + "aaaaaa", len(used) + 6)
        self.assert_offset(Layout.read, used + "aaaaaaa)", len(used) + 7)

    def test_all_short_texts(self):
        for length in range(6):
            for letters in itertools.product("ab -/()", repeat=length):
                self.check("".join(letters))

    def test_single_changes_of_a_text(self):
        text = "(a -b) / -c d / e"
        for at in range(len(text) + 1):
            self.check(text[:at] + text[at + 1:])
            for letter in "a -/()e\nA1":
                self.check(text[:at] + letter + text[at:])
                self.check(text[:at] + letter + text[at + 1:])

    def check(self, text):
        if is_readable(text):
            self.assertEqual(Layout.read(Layout.read(text).text()), Layout.read(text))
        else:
            self.assert_offset(Layout.read, text, longest_prefix(text))


if __name__ == "__main__":
    unittest.main()

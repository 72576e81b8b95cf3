import random
import unittest

from takenover.errors import BadLog, BadText, BadWeb, NoDoing, NoFinds
from takenover.logs import Log
from takenover.reading import read_chain, read_doing, read_finds, read_log, read_post, read_web
from takenover.webs import Web
from wrongs import K, SURE, error_of, wrong_things

FIRST = "offices 4\n"
# What is no line with two numbers behind the word row.
NO_ROW_LINES = ["row 1", "row", "row ", "row 1 0 0", "row  1 0", "row 1  0", " row 1 0", "row 1 0 ", "row\t1 0", "row 1\t0", "",
                " ", "row 01 0", "row 1 00", "row +1 0", "row -1 0", "row 1 -0", "row 1 1234567890", "row 1000000000 0",
                "row a 0", "row 1 0.", "Row 1 0", "rows 1 0", "sure", "sure 1", "sure 1 0 0", "Sure 1 0", "sure 1,0", "row 1,0",
                "find 1 0", "find 0 0 0", "bound 0 0 0", "offices 4", "offices 5", "\t", "row 1 0\t", "# row 1 0", "row 1_0 0",
                "row 1 0|", "sure 1 0|row 1 0", "row 0x1 0", "row 1e0 0", "~", "1 0", "row one two"]
NO_FIRST_LINES = ["offices", "offices ", "offices 4 ", " offices 4", "offices  4", "offices 04", "offices +4", "offices -4", "",
                  "offices 4 4", "offices four", "Offices 4", "office 4", "offices 1234567890", "row 1 0", "sure 1 0", "4", " ",
                  "offices\t4", "offices 4\t", "offices 4.", "offices 00", "find 0 0 0", "offices 4|row 1 0", "offices 0000000004"]
NO_FIND_LINES = ["find 0 0", "find 0 0 0 0", "find", "find ", "Find 0 0 0", "find 00 0 0", "find 0 0 01", "find 0 -1 0", " find 0 0 0",
                 "find 0 0 0 ", "find  0 0 0", "find 0  0 0", "find 0\t0 0", "row 1 0", "offices 4", "bound 0 0 0", "", " ",
                 "find 0 0 1234567890", "find 0 0 x", "find 0,0,0", "finds 0 0 0", "find 0 0 +0", "0 0 0"]
NUMERALS = ["0", "1", "9", "10", "999999999", "100000000"]
NO_NUMERALS = ["", "00", "01", "1234567890", "-1", "+1", " 1", "1 ", "a", "1.0", "1_0", "-", "--", "0x1", "\t1"]


def bad_line(function, *args):
    """Return the line of a BadText, None for another error or none."""
    error = error_of(function, *args)
    return error.line if error.__class__ is BadText else None


class Lines(unittest.TestCase):
    def test_first_lines(self):
        for read in (read_log, read_web):
            for line in NO_FIRST_LINES:
                for rest in ("\n", "\nrow 1 0\n", "\nno line\n", "\nrow 1 0", "\noffices 4\n"):
                    self.assertEqual(1, bad_line(read, line + rest), line + rest)
            self.assertEqual(1, bad_line(read, ""))
            self.assertEqual(1, bad_line(read, "offices 4"))
            self.assertEqual(1, bad_line(read, "\n"))

    def test_other_lines(self):
        for read in (read_log, read_web):
            for line in NO_ROW_LINES:
                for ahead in (0, 1, 2, 70):
                    for rest in ("\n", "\nrow 1 0\n", "\nno line\n", "\nrow 1 0"):
                        text = FIRST + "row 1 0\n" * ahead + line + rest
                        self.assertEqual(ahead + 2, bad_line(read, text), text[-40:])

    def test_what_stands_behind_the_last_line_feed(self):
        for read in (read_log, read_web):
            for line in ("row 1 0", "offices 4", "x", " ", "row 1 0|", "\t", "row 9 9"):
                for many in (0, 1, 61):
                    self.assertEqual(many + 2, bad_line(read, FIRST + "row 1 0\n" * many + line))
        for line in ("find 0 0 0", "x", " "):
            for many in (0, 1, 41):
                self.assertEqual(many + 1, bad_line(read_finds, K, "find 0 0 0\n" * many + line))
                self.assertEqual(many + 1, bad_line(read_chain, "bound 0 0 0\n" * many + line))

    def test_finds_and_chains(self):
        for line in NO_FIND_LINES:
            for ahead in (0, 1, 40, 50):
                for rest in ("\n", "\nfind 0 0 0\n", "\nno line\n", "\nfind 9 9 9"):
                    self.assertEqual(ahead + 1, bad_line(read_finds, K, "find 0 0 0\n" * ahead + line + rest), line)
                    other = line.replace("bound", "FIND").replace("find", "bound").replace("FIND", "find")
                    rest = rest.replace("find", "bound")
                    self.assertEqual(ahead + 1, bad_line(read_chain, "bound 0 0 0\n" * ahead + other + rest), other)

    def test_no_lines(self):
        self.assertEqual([], read_finds(K, ""))
        self.assertEqual([], read_chain(""))
        self.assertEqual((), read_doing(Log(3, ()), ""))
        self.assertEqual(1, bad_line(read_finds, K, "\n"))
        self.assertEqual(1, bad_line(read_chain, "\n"))
        self.assertEqual(2, bad_line(read_chain, "bound 0 0 0\n\n"))

    def test_numerals(self):
        for numeral in NUMERALS:
            number = int(numeral)
            self.assertEqual([(number, 0, number)], read_chain(f"bound {numeral} 0 {numeral}\n"))
            self.assertEqual((number, (number, 0), number), read_post(f"{numeral}: {numeral},0: {numeral}"))
            error = error_of(read_log, f"offices {numeral}\n")
            self.assertIs(None if 1 <= number <= 12 else BadLog, error and error.__class__)
            error = error_of(read_log, f"offices 4\nrow {numeral} 0\n")
            self.assertIs(None if number == 1 else BadLog, error and error.__class__)
        for numeral in NO_NUMERALS:
            for text in (f"bound {numeral} 0 0\n", f"bound 0 {numeral} 0\n", f"bound 0 0 {numeral}\n"):
                self.assertEqual(1, bad_line(read_chain, text), text)
            for text in (f"{numeral}: 0: 0", f"0: 0: {numeral}", f"0: 0,{numeral}: 0", f"0: {numeral},0: 0"):
                self.assertEqual(1, bad_line(read_post, text), text)

    def test_the_errors_behind(self):
        for text, part in (("offices 0\n", "offices"), ("offices 13\n", "offices"), ("offices 999999999\nrow 1 0\n", "offices"),
                           ("offices 4\nrow 1 0\nrow 1 3\n", 1), ("offices 4\nsure 4 3\n", 0), ("offices 1\nrow 0 1\n", 0),
                           ("offices 4\n" + "row 1 0\n" * 61, "rows"), ("offices 4\n" + "row 1 0\n" * 59 + "sure 0 0\n", 59),
                           ("offices 13\nrow 1 0\nrow 9 9\n", "offices"), ("offices 4\nrow 0 0\n" + "row 9 9\n" * 60, "rows")):
            error = error_of(read_log, text)
            self.assertEqual((BadLog, part), (error.__class__, error.part))
            if part != 1:
                error = error_of(read_web, text)
                self.assertEqual((BadWeb, part), (error.__class__, error.part))
        self.assertTrue(read_web("offices 4\nrow 1 0\nrow 1 3\n") == Web(4, ((1, 0, False), (1, 3, False))))
        for text in ("find 5 0 0\n", "find 0 4 0\n", "find 0 0 4\n", "find 0 0 0\n" * 41, "find 999999999 0 0\nfind 0 0 0\n"):
            self.assertIs(NoFinds, error_of(read_finds, K, text).__class__)
        self.assertEqual(60, len(read_log("offices 4\n" + "row 1 0\n" * 60).rows))


class Others(unittest.TestCase):
    def test_no_strings(self):
        for thing in [thing for thing in wrong_things() if not isinstance(thing, str)] + [b"offices 4\n", ["offices 4\n"]]:
            for function, args in ((read_log, ()), (read_web, ()), (read_finds, (K,)), (read_doing, (K,)), (read_post, ()),
                                   (read_chain, ())):
                self.assertEqual(0, bad_line(function, *args, thing), thing)

    def test_doings(self):
        self.assertEqual((True, False, True, True), read_doing(SURE, "+.++"))
        for text in ("", "+", "+++", "+++++", "....", "++.+"):
            self.assertIs(NoDoing, error_of(read_doing, SURE, text).__class__, text)
        for text in ("+.+x", "+.++\n", " ++++", "x", "\n", "+ + + +", "1011", "+.+,", "-.++", "+" * 100 + "x"):
            self.assertEqual(1, bad_line(read_doing, SURE, text), text)

    def test_posts(self):
        self.assertEqual((2, (2, 1, 1, 1), 1), read_post("2: 2,1,1,1: 1"))
        self.assertEqual((0, (), 0), read_post("0: -: 0"))
        for text in ("", "0", "0: 0", "0: : 0", "0: -: 0: 0", "0:-:0", "0 : - : 0", "0: -:  0", "0:  -: 0", " 0: -: 0", "0: -: 0 ",
                     "0: -: 0\n", "-: -: 0", "0: -: -", "0: -,0: 0", "0: 0,: 0", "0: ,0: 0", "0: 0,,0: 0", "0: 0, 0: 0", "0: --: 0",
                     "0: 0 0: 0", "0; -; 0", "0: -: 0:", ": -: 0", "0: -: ", "0,-,0", "(0, (), 0)", "0: 1234567890: 0", "\n", "0: -"):
            self.assertEqual(1, bad_line(read_post, text), text)

    def test_texts_with_one_sign_changed(self):
        source = random.Random(261)
        text = "offices 4\nrow 1 0\nrow 2 1\nsure 2 3\nrow 1 2\n"
        signs = " 0123456789+-.,:|\n\tabcdefiorsuw~"
        for _ in range(3000):
            at = source.randrange(len(text))
            other = text[:at] + source.choice(signs) * source.randint(0, 2) + text[at + source.randint(0, 1):]
            right = self.read_apart(other)
            error = error_of(read_log, other)
            if isinstance(right, tuple):
                told = Log(*right) if error_of(Log, *right) is None else None
                self.assertIs(BadLog if told is None else None, error and error.__class__, other)
                if told is not None:
                    self.assertTrue(told == read_log(other))
            else:
                self.assertEqual((BadText, right), (error.__class__, error.line), other)

    def read_apart(self, text):
        """Return offices and rows of a text, or the first wrong line."""
        rest, rows, offices = text, [], None
        line = 0
        while rest:
            line += 1
            end = rest.find("\n")
            if end < 0:
                return line
            words = rest[:end].split(" ")
            rest = rest[end + 1:]
            numbers = words[1:]
            if any(not number or len(number) > 9 or set(number) - set("0123456789") or str(int(number)) != number
                   for number in numbers):
                return line
            numbers = tuple(map(int, numbers))
            if line == 1 and words[0] == "offices" and len(numbers) == 1:
                offices = numbers[0]
            elif line > 1 and words[0] in ("row", "sure") and len(numbers) == 2:
                rows.append(numbers + (words[0] == "sure",))
            else:
                return line
        return (offices, tuple(rows)) if line else 1

    def test_lists_are_new(self):
        for function, args, text in ((read_finds, (K,), "find 4 1 3\n"), (read_chain, (), "bound 4 1 3\n")):
            function(*args, text).clear()
            self.assertEqual([(4, 1, 3)], function(*args, text))


if __name__ == "__main__":
    unittest.main()

import random
import unittest

from oracles import can_be_among, finals_led_on, order_of, row_choices, runs, some_rows, true_in, walk_cost
from takenover.desks import Desk
from takenover.errors import (BadLog, BadText, NoCut, NoFind, NoLine, NoList, NoMoment, NoName, NoOffice, NoRow,
                              NothingDone, SheetError, TooMany)
from takenover.logs import Log
from takenover.posts import post
from wrongs import error_of, wrong_things

TEXT = "offices 4|row 1 0|row 2 1|row 2 3|row 1 2|"
# All forms of lines that name a log, with values that can stand there.
FORMS = ("find k 0 0 0", "drop k", "show k", "fits k", "holds k 0 0", "told k 0 0 0", "done k 0", "count k", "price k left 0 0",
         "list k -,-,-,-", "orders k", "finds k")
NO_NUMERALS = ("", "00", "01", "1234567890", "-1", "+1", "a", "1.0", "1_0", "-", "0x1", "\t1", "1\t", "None", "1,0", "1:0", "0 0")
NO_NAMES = ("", "K", "k1", "kk ", "abcdefghi", "k-", "k_", "1", "-", "\t", "k\tk", "kK", "k,", "~", "none.")


def text_of(offices, rows):
    """Return the text of a log on one line."""
    return "".join([f"offices {offices}|"] + [("sure" if sure else "row") + f" {x} {y}|" for x, y, sure in rows])


def filled(lines):
    """Return a desk that was told some lines."""
    desk = Desk()
    for line in lines:
        desk.tell(line)
    return desk


def state(desk):
    """Return all that can be seen of what is kept at a desk."""
    names = desk.tell("names").split(" ") if desk.tell("names") != "none" else []
    return [(name, desk.tell(f"show {name}"), desk.tell(f"finds {name}")) for name in names], desk.undoable()


def word(many, all_of_them):
    """Return the word for what is true in so many of so many doings."""
    if all_of_them == 0:
        return "none"
    return "never" if many == 0 else "surely" if many == all_of_them else "open"


class ByHand(unittest.TestCase):
    def test_a_day_at_the_desk(self):
        desk = Desk()
        self.assertEqual(0, desk.undoable())
        for line, right in (("names", "none"), ("log k " + TEXT, "ok"), ("names", "k"), ("show k", TEXT), ("fits k", "yes"),
                            ("finds k", "none"), ("count k", "16"), ("orders k", "0,3,1,2 1,2,0,3"), ("price k right 2 1", "1"),
                            ("price k left 1 1", "0"), ("list k -,0,-,-", "yes"), ("list k -,0,1,-", "no"),
                            ("holds k 4 1", "0 1 2 3"), ("holds k 0 2", "2"), ("find k 4 1 3", "ok"), ("finds k", "4:1:3"),
                            ("count k", "4"), ("done k 3", "surely"), ("done k 0", "open"), ("told k 4 2 3", "surely"),
                            ("told k 4 2 2", "never"), ("told k 1 1 0", "open"), ("find k 4 2 0", "ok"), ("fits k", "no"),
                            ("holds k 4 1", "none"), ("told k 0 0 0", "none"), ("done k 0", "none"), ("count k", "0"),
                            ("list k -,0,-,-", "yes"), ("finds k", "4:1:3 4:2:0"), ("log a offices 1|", "ok"), ("names", "a k"),
                            ("undo", "ok"), ("undo", "ok"), ("finds k", "4:1:3"), ("drop k", "ok"), ("names", "none"),
                            ("undo", "ok"), ("finds k", "4:1:3"), ("show k", TEXT)):
            self.assertEqual(right, desk.tell(line), line)
        self.assertEqual(2, desk.undoable())

    def test_a_log_in_the_place_of_an_elder_one(self):
        desk = filled(["log k " + TEXT, "find k 4 1 3", "find k 0 0 0", "log k offices 2|sure 0 1|"])
        self.assertEqual(("offices 2|sure 0 1|", "none"), (desk.tell("show k"), desk.tell("finds k")))
        desk.tell("find k 1 0 1")
        self.assertEqual(5, desk.undoable())
        desk.tell("undo")
        desk.tell("undo")
        self.assertEqual((TEXT, "4:1:3 0:0:0", 3), (desk.tell("show k"), desk.tell("finds k"), desk.undoable()))
        desk.tell("undo")
        self.assertEqual("4:1:3", desk.tell("finds k"))

    def test_dropped_and_taken_back(self):
        desk = filled(["log k " + TEXT, "find k 4 1 3", "drop k"])
        self.assertIs(NoName, error_of(desk.tell, "show k").__class__)
        desk.tell("log k offices 1|")
        desk.tell("undo")
        self.assertEqual(("none", 3), (desk.tell("names"), desk.undoable()))
        desk.tell("undo")
        self.assertEqual((TEXT, "4:1:3", 2), (desk.tell("show k"), desk.tell("finds k"), desk.undoable()))

    def test_undo_of_nothing(self):
        desk = Desk()
        self.assertIs(NothingDone, error_of(desk.tell, "undo").__class__)
        desk.tell("log k " + TEXT)
        for line in ("names", "show k", "fits k", "finds k", "count k", "orders k"):
            desk.tell(line)
        self.assertEqual(1, desk.undoable())
        desk.tell("undo")
        for _ in range(2):
            self.assertIs(NothingDone, error_of(desk.tell, "undo").__class__)
            self.assertEqual(([], 0), state(desk))

    def test_names(self):
        desk = Desk()
        for name in ("b", "abcdefgh", "a", "zzzzzzzz", "ab", "log", "names", "undo", "none"):
            self.assertEqual("ok", desk.tell(f"log {name} offices 1|"))
            self.assertEqual("offices 1|", desk.tell(f"show {name}"))
        self.assertEqual("a ab abcdefgh b log names none undo zzzzzzzz", desk.tell("names"))

    def test_forty_finds(self):
        desk = filled(["log k " + TEXT] + ["find k 0 1 1"] * 40)
        kept = state(desk)
        error = error_of(desk.tell, "find k 0 0 0")
        self.assertEqual((TooMany, 40), (error.__class__, error.most))
        self.assertIs(NoFind, error_of(desk.tell, "find k 5 0 0").__class__)
        self.assertEqual(kept, state(desk))
        self.assertEqual(("yes", "16"), (desk.tell("fits k"), desk.tell("count k")))
        desk.tell("undo")
        self.assertEqual("ok", desk.tell("find k 1 1 0"))
        self.assertEqual(" ".join(["0:1:1"] * 39 + ["1:1:0"]), desk.tell("finds k"))

    def test_two_desks_know_nothing_of_one_another(self):
        one, other = Desk(), Desk()
        one.tell("log k " + TEXT)
        self.assertEqual(("none", 0), (other.tell("names"), other.undoable()))
        self.assertFalse(one == other)
        self.assertTrue(one == one)
        for thing in wrong_things():
            self.assertFalse(one == thing)

    def test_great_counts(self):
        desk = filled(["log k offices 2|" + "row 0 1|row 1 0|" * 30, "log n offices 9|row 0 1|", "log e offices 8|row 0 1|"])
        self.assertEqual((str(2 ** 60), "2"), (desk.tell("count k"), desk.tell("count e")))
        error = error_of(desk.tell, "count n")
        self.assertEqual((TooMany, 8), (error.__class__, error.most))
        self.assertEqual("0,1,2,3,4,5,6,7,8 0,1,2,3,4,5,6,7,8", filled(["log n offices 9|"]).tell("orders n"))


class Questions(unittest.TestCase):
    def test_answers_by_all_doings(self):
        source = random.Random(271)
        words = set()
        for offices, many in ((1, 0), (2, 5), (3, 6), (4, 7), (3, 0)) * 6:
            rows = some_rows(source, offices, many)
            desk = filled([f"log one {text_of(offices, rows)}"])
            told = runs(offices, rows)
            base = source.choice(list(told.values()))
            finds = []
            for _ in range(source.randint(0, 4)):
                moment, office = source.randint(0, len(rows)), source.randrange(offices)
                edition = base[moment][office] if source.random() < 0.8 else source.randrange(offices)
                finds.append((moment, office, edition))
                desk.tell(f"find one {moment} {office} {edition}")
            right = {doing: moments for doing, moments in told.items() if true_in(moments, finds)}
            self.assertEqual("yes" if right else "no", desk.tell("fits one"))
            self.assertEqual(str(len(right)), desk.tell("count one"))
            for moment in range(len(rows) + 1):
                for office in range(offices):
                    held = sorted({moments[moment][office] for moments in right.values()})
                    self.assertEqual(" ".join(map(str, held)) or "none", desk.tell(f"holds one {moment} {office}"))
                    edition = source.randrange(offices)
                    true = sum(true_in(moments, [(moment, office, edition)]) for moments in right.values())
                    words.add(word(true, len(right)))
                    self.assertEqual(word(true, len(right)), desk.tell(f"told one {moment} {office} {edition}"))
            for row in range(len(rows)):
                self.assertEqual(word(sum(doing[row] for doing in right), len(right)), desk.tell(f"done one {row}"))
            ends = finals_led_on(offices, rows)
            for _ in range(6):
                editions = tuple(source.choice([None] + list(range(offices))) for _ in range(offices))
                line = ",".join("-" if edition is None else str(edition) for edition in editions)
                self.assertEqual("yes" if can_be_among(ends, editions) else "no", desk.tell(f"list one {line}"))
            both = [",".join(map(str, order_of(offices, rows, side))) for side in ("left", "right")]
            self.assertEqual(" ".join(both), desk.tell("orders one"))
            for side in ("left", "right"):
                first, last = source.randint(0, offices), source.randint(0, offices)
                cost = walk_cost(side, post(Log(offices, rows), side, first, last))
                self.assertEqual(str(cost), desk.tell(f"price one {side} {first} {last}"))
        self.assertEqual({"none", "surely", "never", "open"}, words)


class Book:
    """A desk of plain dicts and lists."""

    def __init__(self):
        self.kept = {}
        self.ahead = []

    def note(self):
        self.ahead.append({name: (text, list(finds)) for name, (text, finds) in self.kept.items()})

    def state(self):
        return ([(name, text, " ".join(f"{m}:{o}:{v}" for m, o, v in finds) or "none")
                 for name, (text, finds) in sorted(self.kept.items())], len(self.ahead))


class Led(unittest.TestCase):
    def line(self, source, book, name):
        """Return a line that changes something, done in the book, or one that raises an error, and this error."""
        what = source.choice(("log", "log", "find", "find", "find", "find", "find", "drop", "undo", "undo"))
        if what == "log":
            offices = source.choice((1, 2, 4))
            choices = row_choices(offices) or [(0, 1, False)]
            text = text_of(offices, [source.choice(choices) for _ in range(source.randint(0, 2 if offices > 1 else 0))])
            book.note()
            book.kept[name] = (text, [])
            return f"log {name} {text}", None
        if what == "undo":
            if not book.ahead:
                return "undo", NothingDone
            book.kept = book.ahead.pop()
            return "undo", None
        if what == "drop":
            if name not in book.kept:
                return f"drop {name}", NoName
            book.note()
            del book.kept[name]
            return f"drop {name}", None
        find = (source.randint(0, 2), source.randint(0, 1), source.randint(0, 1))
        line = f"find {name} {find[0]} {find[1]} {find[2]}"
        if name not in book.kept:
            return line, NoName
        text, finds = book.kept[name]
        offices, rows = int(text[8:].split("|")[0]), text.count("|") - 1
        if find[0] > rows or max(find[1:]) >= offices:
            return line, NoFind
        book.note()
        book.kept[name][1].append(find)
        return line, None

    def test_beside_an_own_book(self):
        source = random.Random(272)
        for names in (["a"], ["a", "bb", "c"], ["x", "y"]):
            for _ in range(4):
                desk, book = Desk(), Book()
                for _ in range(120):
                    line, right = self.line(source, book, source.choice(names))
                    if right is None:
                        self.assertEqual("ok", desk.tell(line))
                    else:
                        self.assertIs(right, error_of(desk.tell, line).__class__, line)
                    self.assertEqual(book.state(), state(desk))
                while book.ahead:
                    book.kept = book.ahead.pop()
                    self.assertEqual("ok", desk.tell("undo"))
                    self.assertEqual(book.state(), state(desk))
                self.assertEqual(([], 0), state(desk))


class Wrongs(unittest.TestCase):
    def setUp(self):
        self.desk = filled(["log k " + TEXT, "find k 4 1 3", "log n offices 9|row 0 1|"])
        self.kept = state(self.desk)

    def raised(self, line, error):
        """Try a line that raises an error and changes nothing."""
        found = error_of(self.desk.tell, line)
        self.assertIs(error, found.__class__, line)
        self.assertEqual(self.kept, state(self.desk))
        return found

    def test_no_strings(self):
        for thing in [thing for thing in wrong_things() if not isinstance(thing, str)] + [b"names", ["names"], ("undo",)]:
            self.raised(thing, NoLine)

    def test_no_forms(self):
        for line in FORMS + ("names", "log k " + TEXT):
            self.assertIsNone(error_of(filled(["log k " + TEXT]).tell, line), line)
            words = line.split(" ")
            wrong = [line + " ", " " + line, line + "\n", "\n" + line, line.replace(" ", "  ", 1) if " " in line else line + " k"]
            wrong += [line + " 0", line + " k", line[1:], line.upper(), line + "\t", "\t" + line, line.replace(" ", "\t", 1) + " "]
            wrong += [" ".join(words[:many]) for many in range(1, len(words))] + [words[0] + " "]
            if words[0] == "log":
                wrong = [" " + line, line + "\n", "\n" + line, "log  k " + TEXT, "log", "log ", "log k", "log k ", "Log k " + TEXT]
                wrong += ["logs k " + TEXT, "log\tk " + TEXT, "log k\t" + TEXT, "log " + TEXT[8:], "log k\n" + TEXT]
            for other in wrong:
                self.raised(other, NoLine)
        for line in ("", " ", "\n", "undo ", "undo k", "names k", " names", "names\n", "name", "k", "hello k", "kept k", "-", "none",
                     "Undo", "NAMES", "log k " + TEXT.replace("|", "\n"), "undo\n", "answer k", "tell k", "ok"):
            self.raised(line, NoLine)

    def test_no_names(self):
        for line in FORMS + ("log k " + TEXT,):
            words = line.split(" ")
            # Behind a log's name a second blank is the first sign of TEXT.
            for name in [name for name in NO_NAMES if words[0] != "log" or name != "kk "]:
                self.raised(" ".join([words[0], name] + words[2:]), NoLine)
        for line in FORMS:
            for name in ("a", "kk", "abcdefgh", "zzzzzzzz"):
                error = self.raised(line.replace(" k", " " + name, 1), NoName)
                self.assertEqual(name, error.name)

    def test_no_values(self):
        for line in FORMS:
            words = line.split(" ")
            for at in range(2, len(words)):
                for numeral in NO_NUMERALS:
                    if words[0] == "list" and numeral in ("-", "1,0"):
                        continue
                    self.raised(" ".join(words[:at] + [numeral] + words[at + 1:]), NoLine)
        for side in ("Left", "LEFT", "up", "0", "left,", "leftright", "l"):
            self.raised(f"price k {side} 0 0", NoLine)
        for editions in (",", "0,", ",0", "0,,0", "0,-,", "--", "0,00", "-,x", "-1", "0;0", "None", "0,1234567890", "-,\t-", "0,+1"):
            self.raised(f"list k {editions}", NoLine)

    def test_which_error_comes_first(self):
        # A line of no form ahead of all, then what read_log raises, then the name.
        self.raised("find x 00 0 0", NoLine)
        self.raised("find x 9 9 9", NoName)
        for text, error, part in (("x", BadText, 1), ("offices 4|row 1 0", BadText, 2), ("offices 4", BadText, 1), ("|", BadText, 1),
                                  (" offices 4|", BadText, 1), ("offices 4| |", BadText, 2), ("offices 4||", BadText, 2),
                                  ("offices 4|row 1 0| ", BadText, 3), ("offices 4|row\t1 0|", BadText, 2), (" ", BadText, 1),
                                  ("offices 13|", BadLog, "offices"), ("offices 4|row 1 0|row 1 3|", BadLog, 1),
                                  ("offices 4|" + "row 1 0|" * 61, BadLog, "rows")):
            for name in ("k", "x"):
                found = self.raised(f"log {name} {text}", error)
                self.assertEqual(part, found.line if error is BadText else found.part)
        for line, error in (("find k 5 0 0", NoFind), ("find k 0 4 0", NoFind), ("find k 0 0 4", NoFind), ("holds k 5 9", NoMoment),
                            ("holds k 4 4", NoOffice), ("told k 5 0 0", NoFind), ("told k 0 4 0", NoFind), ("told k 0 0 4", NoFind),
                            ("done k 4", NoRow), ("price k left 5 0", NoCut), ("price k right 0 5", NoCut), ("count n", TooMany),
                            ("list k -,-,-", NoList), ("list k -,-,-,-,-", NoList), ("list k -,-,-,4", NoList), ("list k 0", NoList),
                            ("holds k 999999999 0", NoMoment), ("list k -", NoList), ("done n 1", NoRow), ("find n 2 0 0", NoFind)):
            self.raised(line, error)
            self.assertTrue(issubclass(error, SheetError))

    def test_what_the_functions_take(self):
        for line in ("find k 4 3 3", "holds k 4 3", "told k 4 3 3", "done k 3", "price k left 4 4", "price k right 0 4", "list k 0,1,2,3"):
            self.assertIsNone(error_of(self.desk.tell, line), line)

    def test_equal_lines_give_equal_answers(self):
        for line in FORMS[2:]:
            self.assertEqual(self.desk.tell(line), self.desk.tell(line))
            self.assertIs(str, self.desk.tell(line).__class__)
        self.assertEqual(self.kept, state(self.desk))


if __name__ == "__main__":
    unittest.main()

import random
import unittest

from oracles import right_chain, row_choices, run, there_at, true_in
from takenover.archives import Archive
from takenover.dated import is_doing_for
from takenover.errors import (BadRow, NoFind, NoMoment, NoNumber, NoOffice, NoRow, NothingDone, TooMany)
from takenover.logs import Log
from takenover.telling import editions_at
from takenover.webs import Web
from wrongs import K, error_of, nested, wrong_but, wrong_numbers, wrong_things

NO_ROWS = wrong_but([]) + [(0, 2, True), (0, 0, True), (3, 4, True), (-1, 0, False), (0, 1), (0, 1, 1), (0, 1, True, True)]
NO_ROWS += [[0, 1, True], (True, 0, True), (1, False, True), (0, 1, None), ("0", 1, True), (0, 1, nested(tuple, 39))]
NO_ROWS += [(nested(list, 39), 0, True), (10 ** 39, 0, True), Web(4, ()), (0, Log(1, ()), True), "01T"]
NO_FIND = wrong_but([(0, 0, 0)]) + [(5, 0, 0), (-1, 0, 0), (0, 4, 0), (0, -1, 0), (0, 0, 4), (0, 0, -1), (0, 0)]
NO_FIND += [(0, 0, 0, 0), (True, 0, 0), (0, False, 0), (0, 0, False), [0, 0, 0], (None, 0, 0), [(0, 0, 0)], "000"]
NO_FIND += [(0, 0, nested(tuple, 39)), (nested(list, 39), 0, 0), (10 ** 39, 0, 0), (0, "0", 0), (0, 0, Web(1, ()))]


def filled(log, finds):
    """Return an archive of a log and finds."""
    archive = Archive(log.offices)
    for row in log.rows:
        archive.put(len(archive.now()[0].rows), row)
    for find in finds:
        archive.show(find)
    return archive


class Book:
    """An archive of plain lists: rows, finds, and copies of both ahead of each deed."""

    def __init__(self, offices):
        self.offices = offices
        self.rows = []
        self.finds = []
        self.deeds = []

    def note(self):
        self.deeds.append((list(self.rows), list(self.finds)))

    def put(self, at, row):
        self.note()
        self.rows.insert(at, row)
        self.finds = [(moment + (moment > at), office, edition) for moment, office, edition in self.finds]

    def strike(self, number):
        self.note()
        del self.rows[number]
        self.finds = [(moment - (moment > number), office, edition) for moment, office, edition in self.finds]

    def show(self, find):
        self.note()
        self.finds.append(find)

    def doubt(self, number):
        self.note()
        del self.finds[number]

    def back(self):
        rows, finds = self.deeds.pop()
        self.rows, self.finds = list(rows), list(finds)

    def twin(self):
        other = Book(self.offices)
        other.rows, other.finds = list(self.rows), list(self.finds)
        other.deeds = list(self.deeds)
        return other


def likely_find(source, book):
    """Return a find that is true in some doing of the rows, most times."""
    rows = book.rows
    doing = tuple(sure or source.random() < 0.3 for _, _, sure in rows)
    moment, office = source.randint(0, len(rows)), source.randrange(book.offices)
    edition = run(book.offices, rows, doing)[moment][office] if source.random() < 0.9 else source.randrange(book.offices)
    return moment, office, edition


class Led(unittest.TestCase):
    def compare(self, book, archive):
        """Compare an archive with its book."""
        log, finds = archive.now()
        self.assertIs(Log, log.__class__)
        self.assertEqual((book.offices, tuple(book.rows)), (log.offices, log.rows))
        self.assertEqual(tuple(book.finds), finds)
        self.assertEqual(len(book.deeds), archive.steps())

    def judge(self, source, book, archive):
        """Judge what an archive tells of its finds."""
        rows = tuple(book.rows)
        there = there_at(book.offices, rows, book.finds)
        fit = bool(there[0])
        self.assertIs(fit, archive.fits())
        word, thing = archive.paper()
        self.assertEqual("doing" if fit else "chain", word)
        if fit:
            self.assertTrue(true_in(run(book.offices, rows, thing), book.finds))
            self.assertIs(True, is_doing_for(Log(book.offices, rows), book.finds, thing))
        else:
            self.assertTrue(right_chain(book.offices, rows, book.finds, thing))
        for _ in range(3):
            moment, office = source.randint(0, len(rows)), source.randrange(book.offices)
            right = tuple(sorted({held[office] for held in there[moment]}))
            self.assertEqual(right, archive.can_hold(moment, office))
            self.assertEqual(right[0] if len(right) == 1 else None, archive.surely_at(moment, office))
        return fit

    def deed(self, source, book, archive):
        """Do one deed, the same with a book and its archive."""
        word = source.choice(("put", "put", "put", "show", "show", "show", "strike", "doubt", "back"))
        choices = row_choices(book.offices)
        if word == "put" and choices and len(book.rows) < 60:
            args = (source.randint(0, len(book.rows)), source.choice(choices))
        elif word == "strike" and book.rows:
            args = (source.randrange(len(book.rows)),)
        elif word == "show" and len(book.finds) < 40:
            args = (likely_find(source, book),)
        elif word == "doubt" and book.finds:
            args = (source.randrange(len(book.finds)),)
        elif word == "back" and book.deeds:
            args = ()
        else:
            return
        getattr(book, word)(*args)
        self.assertIsNone(getattr(archive, word)(*args))

    def test_beside_plain_lists(self):
        source = random.Random(231)
        answers = [0, 0]
        for offices in (1, 2, 3, 4, 5):
            for _ in range(6):
                book, archive = Book(offices), Archive(offices)
                for _ in range(40):
                    self.deed(source, book, archive)
                    self.compare(book, archive)
                    answers[self.judge(source, book, archive)] += 1
                while book.deeds:
                    book.back()
                    archive.back()
                    self.compare(book, archive)
                self.assertIs(NothingDone, error_of(archive.back).__class__)
                self.compare(book, archive)
        self.assertGreater(min(answers), 100)

    def test_copies_led_on_apart(self):
        source = random.Random(232)
        for _ in range(20):
            pairs = [(Book(3), Archive(3))]
            for _ in range(80):
                at = source.randrange(len(pairs))
                book, archive = pairs[at]
                if source.random() < 0.1 and len(pairs) < 4:
                    pairs.append((book.twin(), archive.copy()))
                self.deed(source, book, archive)
                for one, other in pairs:
                    self.compare(one, other)
            for book, archive in pairs:
                self.judge(source, book, archive)
                # A copy can be taken back beyond the moment at which it was made.
                for _ in range(archive.steps()):
                    book.back()
                    archive.back()
                    self.compare(book, archive)
                self.assertEqual((0, (), ()), (archive.steps(), archive.now()[0].rows, archive.now()[1]))

    def test_forty_rows_and_many_finds(self):
        source = random.Random(233)
        for offices, wrong in ((4, 0), (5, 0.02), (6, 0.3)):
            book, archive = Book(offices), Archive(offices)
            for _ in range(40):
                row = source.choice(row_choices(offices, (False, False, False, True)))
                at = source.randint(0, len(book.rows))
                book.put(at, row)
                archive.put(at, row)
            moments = run(offices, book.rows, tuple(sure or source.random() < 0.3 for _, _, sure in book.rows))
            for _ in range(40):
                moment, office = source.randint(0, 40), source.randrange(offices)
                edition = source.randrange(offices) if source.random() < wrong else moments[moment][office]
                book.show((moment, office, edition))
                archive.show((moment, office, edition))
            self.compare(book, archive)
            self.assertIs(self.judge(source, book, archive), archive.fits())
            for _ in range(15):
                self.deed(source, book, archive)
                self.judge(source, book, archive)
            self.compare(book, archive)


class Moments(unittest.TestCase):
    def shown_after(self, word, *args):
        """Return the moments of finds at all moments of four rows behind a put or a strike."""
        archive = filled(K, [(moment, 0, 0) for moment in range(5)])
        getattr(archive, word)(*args)
        after = [moment for moment, _, _ in archive.now()[1]]
        archive.back()
        self.assertEqual([0, 1, 2, 3, 4], [moment for moment, _, _ in archive.now()[1]])
        return after

    def test_finds_stay_behind_the_same_rows(self):
        row = (0, 1, False)
        right = {0: [0, 2, 3, 4, 5], 1: [0, 1, 3, 4, 5], 2: [0, 1, 2, 4, 5], 3: [0, 1, 2, 3, 5], 4: [0, 1, 2, 3, 4]}
        for at, moments in right.items():
            self.assertEqual(moments, self.shown_after("put", at, row))
        right = {0: [0, 0, 1, 2, 3], 1: [0, 1, 1, 2, 3], 2: [0, 1, 2, 2, 3], 3: [0, 1, 2, 3, 3]}
        for number, moments in right.items():
            self.assertEqual(moments, self.shown_after("strike", number))

    def test_a_find_and_its_row(self):
        archive = filled(Log(2, ((0, 1, True),)), [(1, 0, 1)])
        archive.put(0, (1, 0, True))
        self.assertEqual(((Log(2, ((1, 0, True), (0, 1, True)))), ((2, 0, 1),)), archive.now())
        self.assertEqual((False, "chain"), (archive.fits(), archive.paper()[0]))
        archive.back()
        archive.put(1, (1, 0, True))
        self.assertEqual((((1, 0, 1),), ("doing", (True, True))), (archive.now()[1], archive.paper()))
        archive.strike(0)
        self.assertEqual((((0, 0, 1),), False), (archive.now()[1], archive.fits()))
        self.assertEqual(((), None), (archive.can_hold(0, 0), archive.surely_at(0, 0)))

    def test_only_editions(self):
        archive = filled(K, [(4, 1, 2)])
        self.assertEqual((2,), archive.can_hold(4, 1))
        self.assertEqual(2, archive.surely_at(4, 1))
        self.assertEqual(editions_at(K, [(4, 1, 2)], 4, 0), archive.can_hold(4, 0))
        self.assertIsNone(archive.surely_at(1, 1))
        self.assertEqual(0, archive.surely_at(0, 0))
        archive.show((0, 0, 1))
        self.assertIsNone(archive.surely_at(0, 0))


class Trying(unittest.TestCase):
    def state(self, archive):
        """Return all that can be seen of an archive and of what can be taken back of it."""
        found = []
        other = archive.copy()
        while other.steps():
            found.append((other.now()[0].rows, other.now()[1], other.steps()))
            other.back()
        return found + [(other.now()[0].rows, other.now()[1], 0)]

    def test_what_the_action_returns(self):
        archive = filled(K, [(4, 1, 2)])
        kept = self.state(archive)
        for thing in wrong_things():
            self.assertIs(thing, archive.trying(lambda one: thing))
        self.assertIs(archive, archive.trying(lambda one: one))
        self.assertEqual(("chain", 6), archive.trying(lambda one: (one.show((0, 0, 1)), one.paper()[0], one.steps())[1:]))
        self.assertEqual(kept, self.state(archive))

    def test_everything_is_put_back(self):
        archive = filled(K, [(4, 1, 2)])
        kept = self.state(archive)

        def action(one):
            one.put(0, (0, 1, True))
            one.strike(2)
            one.show((4, 0, 0))
            one.doubt(0)
            for _ in range(3):
                one.back()
            return one.steps(), len(one.now()[0].rows)

        self.assertEqual((6, 5), archive.trying(action))
        self.assertEqual(kept, self.state(archive))

    def test_what_was_done_ahead_is_taken_back(self):
        archive = filled(K, [(4, 1, 2)])
        kept = self.state(archive)

        def to_the_beginning(one):
            while one.steps():
                one.back()
            one.put(0, (3, 2, True))
            return one.now()

        self.assertEqual((Log(4, ((3, 2, True),)), ()), archive.trying(to_the_beginning))
        self.assertEqual(kept, self.state(archive))
        archive.back()
        self.assertEqual((K, ()), archive.now())

        def beyond(one):
            while True:
                one.back()

        self.assertIs(NothingDone, error_of(archive.trying, beyond).__class__)
        self.assertEqual(kept[1:], self.state(archive))

    def test_errors_go_on(self):
        archive = filled(K, [(4, 1, 2)])
        kept = self.state(archive)

        class Other(BaseException):
            pass

        for error in (ValueError("one"), NoRow(), KeyError(3), Other(), StopIteration(4), ZeroDivisionError(), SystemExit()):
            def action(one):
                one.strike(3)
                one.back()
                one.back()
                one.put(1, (1, 0, False))
                raise error

            try:
                archive.trying(action)
                self.fail("no error went on")
            except BaseException as raised:
                self.assertIs(error, raised)
            self.assertEqual(kept, self.state(archive))

    def test_tries_within(self):
        archive = filled(K, [(4, 1, 2)])
        kept = self.state(archive)

        def inner(one):
            one.back()
            one.back()
            one.strike(0)
            raise KeyError("inner")

        def outer(one):
            one.show((0, 0, 0))
            ahead = self.state(one)
            self.assertRaises(KeyError, one.trying, inner)
            self.assertEqual(ahead, self.state(one))
            self.assertEqual(2, one.trying(lambda again: (again.put(0, (0, 1, True)), again.steps() - 5)[1]))
            self.assertEqual(ahead, self.state(one))
            one.back()
            one.back()
            return one.copy()

        other = archive.trying(outer)
        self.assertEqual(kept, self.state(archive))
        self.assertEqual(kept[1:], self.state(other))
        other.strike(0)
        self.assertEqual(kept, self.state(archive))

    def test_goes_on_behind_a_try(self):
        archive = Archive(2)
        archive.trying(lambda one: one.put(0, (0, 1, True)))
        self.assertIs(NothingDone, error_of(archive.back).__class__)
        archive.put(0, (1, 0, False))
        self.assertEqual(1, archive.steps())
        archive.trying(lambda one: one.back())
        self.assertEqual((1, ((1, 0, False),)), (archive.steps(), archive.now()[0].rows))


class Wrongs(unittest.TestCase):
    def raised(self, archive, error, method, *args):
        """Try a call that raises an error and changes nothing."""
        log, finds = archive.now()
        steps = archive.steps()
        found = error_of(getattr(archive, method), *args)
        self.assertIs(error, found.__class__, (method, args))
        self.assertEqual((log, finds, steps), archive.now() + (archive.steps(),))
        return found

    def test_no_number_of_offices(self):
        for thing in wrong_numbers() + [0, 13]:
            self.assertIs(NoNumber, error_of(Archive, thing).__class__)
        for offices in range(1, 13):
            archive = Archive(offices)
            self.assertEqual((Log(offices, ()), ()), archive.now())
            self.assertEqual((True, ("doing", ()), (0,), 0), (archive.fits(), archive.paper(), archive.can_hold(0, 0),
                                                             archive.surely_at(0, 0)))
            self.assertEqual(0, archive.steps())
            self.raised(archive, NothingDone, "back")

    def test_wrong_things(self):
        archive = filled(K, [(2, 2, 1), (4, 1, 1)])
        for thing in wrong_numbers() + [5, -2]:
            self.raised(archive, NoRow, "put", thing, (0, 1, True))
            self.raised(archive, NoRow, "put", thing, None)
            self.raised(archive, NoMoment, "can_hold", thing, 0)
            self.raised(archive, NoMoment, "surely_at", thing, None)
        for thing in wrong_numbers() + [4, -2]:
            self.raised(archive, NoRow, "strike", thing)
            for moment in (0, 4):
                self.raised(archive, NoOffice, "can_hold", moment, thing)
                self.raised(archive, NoOffice, "surely_at", moment, thing)
        for thing in NO_ROWS:
            for at in (0, 2, 4):
                self.raised(archive, BadRow, "put", at, thing)
        for thing in NO_FIND:
            self.raised(archive, NoFind, "show", thing)
        for thing in wrong_numbers() + [2, -2]:
            self.raised(archive, NoFind, "doubt", thing)
        self.raised(Archive(4), NoRow, "strike", 0)
        self.raised(Archive(4), NoFind, "doubt", 0)
        self.raised(Archive(1), BadRow, "put", 0, (0, 1, True))
        self.raised(Archive(4), NoFind, "show", (1, 0, 0))

    def test_sixty_rows(self):
        archive = filled(Log(2, ((0, 1, False),) * 60), [])
        for at in (0, 30, 60):
            self.assertEqual(60, self.raised(archive, TooMany, "put", at, (0, 1, True)).most)
            self.raised(archive, BadRow, "put", at, (0, 2, True))
        self.raised(archive, NoRow, "put", 61, (0, 2, True))
        archive.strike(59)
        archive.put(59, (1, 0, True))
        self.assertEqual(((1, 0, True), 62), (archive.now()[0].rows[59], archive.steps()))
        self.raised(archive, TooMany, "put", 60, (0, 1, True))

    def test_forty_finds(self):
        archive = filled(K, [(0, 0, 0)] * 40)
        self.assertEqual(40, self.raised(archive, TooMany, "show", (1, 1, 1)).most)
        self.raised(archive, NoFind, "show", (5, 1, 1))
        self.raised(archive, NoFind, "doubt", 40)
        archive.doubt(39)
        archive.show((4, 1, 1))
        self.assertEqual(((4, 1, 1), 46), (archive.now()[1][39], archive.steps()))
        self.assertIs(True, archive.fits())

    def test_two_archives_know_nothing_of_one_another(self):
        one, other = Archive(3), Archive(3)
        one.put(0, (0, 1, True))
        one.show((1, 0, 1))
        self.assertEqual((2, 0), (one.steps(), other.steps()))
        self.assertEqual((Log(3, ()), ()), other.now())
        self.assertFalse(one == other)
        self.assertTrue(one == one)
        for thing in wrong_things():
            self.assertFalse(one == thing)

    def test_what_was_told_stays(self):
        archive = filled(K, [(0, 0, 1)])
        log, finds = archive.now()
        word, thing = archive.paper()
        self.assertEqual("chain", word)
        kept = list(thing)
        thing.clear()
        self.assertEqual(("chain", kept), archive.paper())
        archive.strike(0)
        archive.doubt(0)
        self.assertEqual((K, ((0, 0, 1),)), (log, finds))


if __name__ == "__main__":
    unittest.main()

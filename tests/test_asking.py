import random
import unittest

from itertools import permutations

from oracles import some_rows, there_at, true_in
from samples import JUST_SHEETS, finds_of, rows_of, with_finds
from takenover.asking import is_question_tree, question_tree, questions, sheets_at
from takenover.changes import behind, repeated
from takenover.errors import NoFinds, NoMoment, TooMany
from takenover.logs import Log
from wrongs import K, NO_FINDS, SURE, error_of, nested, try_wrongs, wrong_numbers, wrong_things

SIZES = ((1, 0, 3), (2, 6, 20), (3, 7, 40), (4, 8, 40), (5, 9, 10), (8, 9, 3))
BAD = [(2, 2, 0), (4, 1, 1)]
# Logs of 8 offices with just so many sheets at the last moment.
JUST_ASKED = ((200, "65 01 01 76 34 45 21 01 65 65 34 12 76 56! 10 76"),
              (201, "43 54! 01 23 67 32 32 34 65 56 01 45 54 54 21 01 21! 56 43 76 10 56"))


def split(found, office):
    """Return the sheets by the edition of an office."""
    parts = {}
    for held in found:
        parts.setdefault(held[office], []).append(held)
    return parts


def fewest(found, offices):
    """Return the least number of questions, by trying all offices, one deeper at each try."""
    deep = 0
    while not enough(found, offices, deep):
        deep += 1
    return deep


def enough(found, offices, deep):
    """Tell whether so many questions are enough."""
    if len(found) == 1:
        return True
    if deep == 0 or len(found) > 8 ** deep:
        return False
    return any(all(enough(part, offices - {office}, deep - 1) for part in split(found, office).values())
               for office in offices)


def right_tree(found, thing, asked=()):
    """Judge a tree whose kinds are right by going through all sheets that go with the answers."""
    if thing[0] == "told":
        return found == [thing[1]]
    _, office, trees = thing
    parts = split(found, office)
    return office not in asked and set(parts) == set(trees) and all(
        right_tree(part, trees[edition], asked + (office,)) for edition, part in parts.items())


def depth(tree):
    """Return the greatest number of questions of a tree."""
    return 0 if tree[0] == "told" else 1 + max(depth(part) for part in tree[2].values())


def tree_by(found, order):
    """Return the tree that asks for all these offices in this order, also for what is known already."""
    if not order:
        return ("told", found[0])
    return ("ask", order[0], {edition: tree_by(part, order[1:]) for edition, part in split(found, order[0]).items()})


def walk(tree):
    """Return all trees in a tree."""
    return [tree] + ([] if tree[0] == "told" else [more for part in tree[2].values() for more in walk(part)])


def changed(tree, one, other):
    """Return a tree with one of the trees in it changed, told by being the same object."""
    if tree is one:
        return other
    if tree[0] == "told":
        return tree
    return ("ask", tree[1], {edition: changed(part, one, other) for edition, part in tree[2].items()})


class Sheets(unittest.TestCase):
    def test_all_doings_gone_through(self):
        for offices, rows, told, finds in with_finds(212, SIZES):
            log = Log(offices, rows)
            right = [moments for moments in told.values() if true_in(moments, finds)]
            for moment in range(len(rows) + 1):
                self.assertEqual(sorted({moments[moment] for moments in right}), sheets_at(log, finds, moment))

    def test_great_logs(self):
        source = random.Random(213)
        for offices, times, many in ((7, 1, 3), (5, 4, 12), (3, 40, 40)):
            base = some_rows(source, offices, 60, (False,) * 9 + (True,))
            log = behind(repeated(Log(offices, base), times), Log(offices, base[:7]))
            finds = finds_of(source, log, many, 0.1)
            there = there_at(offices, log.rows, finds)
            for moment in [0, len(log.rows)] + [source.randrange(len(log.rows)) for _ in range(6)]:
                if len(there[moment]) <= 2000:
                    self.assertEqual(sorted(there[moment]), sheets_at(log, tuple(finds), moment))
                else:
                    self.assertIs(TooMany, error_of(sheets_at, log, finds, moment).__class__)

    def test_just_two_thousand_sheets(self):
        for many, rows in JUST_SHEETS:
            log = Log(8, rows_of(rows))
            if many > 2000:
                error = error_of(sheets_at, log, [], len(log.rows))
                self.assertEqual((TooMany, 2000), (error.__class__, error.most))
                self.assertEqual([tuple(range(8))], sheets_at(log, [], 0))
            else:
                self.assertEqual(many, len(sheets_at(log, [], len(log.rows))))

    def test_no_rows_and_no_sheets(self):
        for offices in (1, 8):
            log = Log(offices, ())
            self.assertEqual([tuple(range(offices))], sheets_at(log, [], 0))
            self.assertEqual((0, ("told", tuple(range(offices)))), (questions(log, [], 0), question_tree(log, [], 0)))
        for moment in range(5):
            self.assertEqual([], sheets_at(K, BAD, moment))
            self.assertIsNone(questions(K, BAD, moment))
            self.assertIsNone(question_tree(K, BAD, moment))


class Trees(unittest.TestCase):
    def judge(self, log, finds, moment, found, right):
        """Judge the questions and the tree of the sheets that can be there, of which right questions are enough."""
        self.assertEqual(right, questions(log, finds, moment))
        tree = question_tree(log, finds, moment)
        self.assertTrue(right_tree(found, tree))
        self.assertEqual(right, depth(tree))
        self.assertIs(True, is_question_tree(log, finds, moment, tree))
        return tree

    def test_all_ways_to_ask_tried(self):
        numbers = set()
        for offices, rows, told, finds in with_finds(214, SIZES[:5]):
            log = Log(offices, rows)
            for moment in range(len(rows) + 1):
                found = sorted({moments[moment] for moments in told.values() if true_in(moments, finds)})
                if not found:
                    self.assertIsNone(questions(log, finds, moment))
                    self.assertIsNone(question_tree(log, finds, moment))
                    continue
                numbers.add(fewest(found, set(range(offices))))
                self.judge(log, finds, moment, found, fewest(found, set(range(offices))))
        self.assertLess({0, 1, 2, 3}, numbers)

    def test_eight_offices(self):
        source = random.Random(215)
        numbers = set()
        while len(numbers) < 4:
            offices = source.choice((6, 7, 8))
            log = Log(offices, some_rows(source, offices, source.randint(6, 14), (False,)))
            moment = len(log.rows) - source.randint(0, 2)
            found = sorted(there_at(offices, log.rows, [])[moment])
            if len(found) <= 200:
                right = fewest(found, set(range(offices)))
                numbers.add(right)
                self.judge(log, [], moment, found, right)

    def test_just_two_hundred_sheets(self):
        for many, rows in JUST_ASKED:
            log = Log(8, rows_of(rows))
            last = len(log.rows)
            found = sorted(there_at(8, log.rows, [])[last])
            self.assertEqual((many, found), (len(found), sheets_at(log, [], last)))
            tree = tree_by(found, tuple(range(8)))
            if many > 200:
                for function, more in ((questions, ()), (question_tree, ()), (is_question_tree, (tree,))):
                    error = error_of(function, log, [], last, *more)
                    self.assertEqual((TooMany, 200), (error.__class__, error.most))
                continue
            self.assertIs(True, is_question_tree(log, [], last, tree))
            self.assertTrue(right_tree(found, question_tree(log, [], last)))
            self.assertEqual(questions(log, [], last), depth(question_tree(log, [], last)))
            self.assertEqual(fewest(found, set(range(8))), questions(log, [], last))

    def test_all_orders_and_what_is_known_already(self):
        for log, moment in ((K, 4), (K, 2), (SURE, 3), (Log(3, ()), 0), (Log(1, ()), 0)):
            found = sheets_at(log, [], moment)
            for order in permutations(range(log.offices)):
                tree = tree_by(found, order)
                self.assertEqual(log.offices, depth(tree))
                self.assertIs(True, is_question_tree(log, [], moment, tree))

    def test_more_than_sixty_rows(self):
        source = random.Random(216)
        for offices, times in ((2, 50), (3, 30)):
            log = repeated(Log(offices, some_rows(source, offices, 60, (False,) * 9 + (True,))), times)
            for moment in (7, 60 * times - 1):
                finds = finds_of(source, log, 3)
                found = sorted(there_at(offices, log.rows, finds)[moment])
                self.judge(log, finds, moment, found, fewest(found, set(range(offices))))


class Judged(unittest.TestCase):
    def setUp(self):
        self.found = sheets_at(K, [], 4)
        self.tree = tree_by(self.found, (1, 2, 0, 3))

    def judge(self, thing, right):
        self.assertIs(right, is_question_tree(K, [], 4, thing), thing)

    def test_trees_near_right_ones(self):
        for tree in (self.tree, question_tree(K, [], 4), tree_by(self.found, (2, 1, 3))):
            self.judge(tree, right_tree(self.found, tree))
            for one in walk(tree):
                if one[0] == "told":
                    wrong = [("told", one[1][::-1]), ("told", one[1][:-1]), ("told", list(one[1])), ["told", one[1]]]
                    wrong += [("told", one[1] + (3,)), ("told",), ("told", one[1], one[1]), ("Told", one[1]), one[1]]
                    wrong += [("ask", one[1]), ("told", None), ("told", (0, 1, 2, None)), (b"told", one[1]), None]
                    wrong += [("told", tuple(bool(edition) if edition < 2 else edition for edition in one[1])), "told"]
                else:
                    _, office, trees = one
                    edition = list(trees)[0]
                    less = {key: part for key, part in trees.items() if key != edition}
                    wrong = [("ask", office, less), ("ask", office, dict(trees, x=trees[edition])), ("ask", office), {}]
                    wrong += [("ask", office, dict(less, x=trees[edition])), ("ask", office, list(trees.items()))]
                    wrong += [("ask", office, {**trees, 9: trees[edition]}), ("ask", 4, trees), ("ask", -1, trees)]
                    wrong += [("ask", office, {**less, 9: trees[edition]}), ("ask", office, {**less, -1: trees[edition]})]
                    wrong += [("ask", office, {**less, bool(edition): trees[edition]})] if edition < 2 else []
                    wrong += [("ask", office, {**less, (edition,): trees[edition]}), ("ask", None, trees), trees]
                    wrong += [("ask", office, {**less, str(edition): trees[edition]}), ("told", office, trees)]
                    wrong += [("ask", office, {**less, None: trees[edition]}), ["ask", office, trees], ("ask", office, 0)]
                    wrong += [("ask", bool(office), trees) if office < 2 else None, ("ask", "0", trees), ("Ask", office, trees)]
                    wrong += [("ask", office, {**trees, edition: None}), ("ask", office, {**trees, edition: self.tree})]
                    wrong += [("ask", office, trees, trees), ("ask", office, {**trees, edition: nested(dict, 30)})]
                for other in wrong:
                    self.judge(changed(tree, one, other), False)

    def test_told_where_several_go_with_the_answers(self):
        for held in self.found:
            self.judge(("told", held), False)
        parts = split(self.found, 1)
        tree = ("ask", 1, {edition: ("told", part[0]) for edition, part in parts.items()})
        self.judge(tree, right_tree(self.found, tree))
        self.judge(tree, False)

    def test_an_office_asked_for_twice(self):
        parts = split(self.found, 1)
        for again in (1, 2):
            trees = {edition: ("ask", again, {edition if again == 1 else key: tree_by(rest, (0, 3, 2) if again == 1 else (0, 3))
                                              for key, rest in split(part, again).items()})
                     for edition, part in parts.items()}
            self.judge(("ask", 1, trees), again == 2)
        told = ("told", (0, 1, 2))
        self.assertIs(True, is_question_tree(Log(3, ()), [], 0, ("ask", 0, {0: ("ask", 1, {1: told})})))
        self.assertIs(False, is_question_tree(Log(3, ()), [], 0, ("ask", 0, {0: ("ask", 0, {0: told})})))
        self.assertIs(True, is_question_tree(Log(3, ()), [], 0, told))

    def test_other_things(self):
        for thing in wrong_things() + [("told", nested(tuple, 38)), ("ask", 0, nested(dict, 38)), ("ask", nested(list, 38), {})]:
            for log, moment in ((K, 4), (K, 0), (SURE, 4)):
                self.assertIs(False, is_question_tree(log, [], moment, thing))
        deep = {0: ("ask", 0, {})}
        for _ in range(10):
            deep = {0: ("ask", 0, deep)}
        self.assertIs(False, is_question_tree(Log(3, ()), [], 0, ("ask", 0, deep)))

    def test_none_where_there_are_no_sheets(self):
        for thing in (("told", (0, 1, 2, 3)), ("ask", 0, {}), None, ("told", ()), question_tree(K, [], 0)):
            self.assertIs(False, is_question_tree(K, BAD, 0, thing))


class Wrongs(unittest.TestCase):
    def test_wrong_things(self):
        first = (1, NoFinds, NO_FINDS)
        moments = (2, NoMoment, wrong_numbers() + [5, -2])
        for log in (K, SURE):
            for finds in ([(2, 2, 1)], ((2, 2, 1),), BAD):
                for function in (sheets_at, questions):
                    try_wrongs(self, function, (log, finds, 3), [first, moments])
                for function, more in ((question_tree, ()), (is_question_tree, (None,)), (is_question_tree, ("told",))):
                    self.assertEqual(function(log, finds, 3, *more), function(log, tuple(finds), 3, *more))
                    try_wrongs(self, function, (log, finds, 3) + more, [first, moments])

    def test_which_error_comes_first(self):
        great = Log(9, ((0, 1, False),))
        long = Log(8, rows_of(JUST_SHEETS[1][1]))
        for function, more in ((sheets_at, ()), (questions, ()), (question_tree, ()), (is_question_tree, (None,))):
            for finds, moment, right in (([None], 2, NoFinds), ([], 2, NoMoment), ([], True, NoMoment), ([], 1, TooMany),
                                         ([(0, 0, 1)], 0, TooMany)):
                error = error_of(function, great, finds, moment, *more)
                self.assertIs(right, error.__class__)
                self.assertEqual(8, getattr(error, "most", 8))
            error = error_of(function, long, [], len(long.rows), *more)
            self.assertEqual((TooMany, 2000 if function is sheets_at else 200), (error.__class__, error.most))
            self.assertIs(NoMoment, error_of(function, long, [], len(long.rows) + 1, *more).__class__)
            self.assertIsNone(error_of(function, Log(8, ()), [], 0, *more))

    def test_arguments_stay_and_lists_and_dicts_are_new(self):
        finds = [(2, 2, 1)]
        kept = list(sheets_at(K, finds, 4))
        sheets_at(K, finds, 4).clear()
        self.assertEqual(kept, sheets_at(K, finds, 4))
        tree = question_tree(K, finds, 4)
        dicts = [one[2] for one in walk(tree) if one[0] == "ask"]
        self.assertEqual(len(dicts), len({id(one) for one in dicts}))
        other = question_tree(K, tuple(finds), 4)
        self.assertEqual(tree, other)
        self.assertIs(True, is_question_tree(K, finds, 4, tree))
        self.assertEqual(tree, other)
        for one in dicts:
            one.clear()
        self.assertEqual(other, question_tree(K, finds, 4))
        self.assertEqual([(2, 2, 1)], finds)


if __name__ == "__main__":
    unittest.main()

"""The whole program beside one list of all doings of a log."""

import random
import unittest

from oracles import all_lists, can_be_among, finals, right_chain, run, true_in
from samples import with_finds
from takenover.alikes import let_alike, shortest
from takenover.archives import Archive
from takenover.asking import question_tree, sheets_at
from takenover.chains import chain
from takenover.chances import final_chances, likeliest, mean_apart
from takenover.changes import loosened, mirrored
from takenover.counts import (all_doings, chance, count_doings, count_final, doing_at, doing_number, ever_held, fewest_done,
                              final_rows)
from takenover.dated import doing_for, fit, greatest_cuts, is_doing_for, least_cuts, mirrored_finds
from takenover.desks import Desk
from takenover.ends import can_be_alone, can_come, can_hold, fewest_apart, gone, most_apart
from takenover.hands import could_do
from takenover.knowing import moments_held
from takenover.lists import can_be, history
from takenover.logs import Log, all_sheets, sheets
from takenover.reading import read_chain, read_doing, read_finds, read_log, read_web
from takenover.strangers import finds_of, refuted
from takenover.telling import all_at, editions_at, offices_at, row_told, told
from takenover.texts import chain_text, doing_text, finds_text, log_text, web_text
from takenover.webs import block, count_lots, greatest_lot, surely_gone, ways, web_of

SIZES = ((1, 0, 2), (2, 6, 8), (3, 7, 14), (4, 8, 14), (5, 8, 4))


def word(many, all_of_them):
    """Return the word for what is true in so many of so many doings."""
    if all_of_them == 0:
        return "none"
    return "never" if many == 0 else "surely" if many == all_of_them else "open"


class Whole(unittest.TestCase):
    def setUp(self):
        self.source = random.Random(281)

    def judge_counts(self, log, finds, right):
        """Judge the doings in which the finds are true, ascending, counted, numbered, listed and weighed."""
        doings = sorted(right)
        self.assertEqual((len(doings), doings), (count_doings(log, finds), all_doings(log, finds)))
        self.assertEqual([*range(len(doings))], [doing_number(log, finds, doing) for doing in doings])
        self.assertEqual(doings, [doing_at(log, finds, number) for number in range(len(doings))])
        fewest = min(((sum(doing), doing) for doing in doings), default=None)
        self.assertEqual(fewest, fewest_done(log, finds))
        halves = ((1, 2),) * len(log.rows)
        loose = sum(1 for row in log.rows if not row[2])
        top, bottom = chance(log, finds, halves)
        self.assertEqual(len(doings) * bottom, top * 2 ** loose)
        likely = likeliest(log, finds, halves)
        self.assertEqual(None if not doings else ((1, 2 ** loose), doings[0]), likely)

    def judge_finds(self, log, finds, right):
        """Judge whether the finds fit, and what is sure, never or open."""
        doing, bars = doing_for(log, finds), chain(log, finds)
        self.assertEqual((bool(right),) * 3, (fit(log, finds), doing in right, bars is None))
        if not right:
            self.assertTrue(right_chain(log.offices, log.rows, finds, bars))
            self.assertIsNone(least_cuts(log, finds))
        for moment in range(len(log.rows) + 1):
            there = sorted({moments[moment] for moments in right.values()})
            self.assertEqual(there, sheets_at(log, finds, moment))
            self.assertEqual(bool(there), question_tree(log, finds, moment) is not None)
            held = tuple(tuple(sorted({one[office] for one in there})) for office in range(log.offices))
            self.assertEqual(held, all_at(log, finds, moment))
            for office in range(log.offices):
                edition = self.source.randrange(log.offices)
                self.assertEqual(held[office], editions_at(log, finds, moment, office))
                self.assertEqual(edition in held[office], office in offices_at(log, finds, moment, edition))
                self.assertEqual(edition in held[office], moment in moments_held(log, finds, office, edition))
                many = sum(moments[moment][office] == edition for moments in right.values())
                self.assertEqual(word(many, len(right)), told(log, finds, (moment, office, edition)))
        for row in range(len(log.rows)):
            self.assertEqual(word(sum(doing[row] for doing in right), len(right)), row_told(log, finds, row))
        for office in range(log.offices):
            for edition in range(log.offices):
                many = sum(any(held[office] == edition for held in moments) for moments in right.values())
                self.assertEqual(word(many, len(right)), ever_held(log, finds, office, edition))
        self.assertIs(bool(right), could_do(log, finds, (3,) * len(log.rows), (3,)))

    def judge_ends(self, log, known):
        """Judge what can be there at the last moment, lists and the lots of the web."""
        ends = sorted({moments[-1] for moments in known.values()})
        self.assertEqual((ends, len(ends)), (final_rows(log), count_final(log)))
        self.assertEqual(set(ends), set(final_chances(log, ((1, 3),) * len(log.rows))))
        apart = [len(set(held)) for held in ends]
        self.assertEqual((max(apart), min(apart)), (most_apart(log), fewest_apart(log)))
        if len(ends) == 1:
            self.assertEqual((apart[0], 1), mean_apart(log, ((1, 3),) * len(log.rows)))
        for one in range(log.offices):
            self.assertEqual(tuple(sorted({held[one] for held in ends})), can_hold(log, one))
            self.assertEqual(tuple(sorted({at for held in ends for at in range(log.offices) if held[at] == one})),
                             can_come(log, one))
        self.assertEqual(tuple(sorted({held[0] for held in ends if len(set(held)) == 1})), can_be_alone(log))
        lists = all_lists(log.offices)
        for editions in lists if len(lists) < 70 else self.source.sample(lists, 70):
            self.assertIs(can_be_among(ends, editions), can_be(log, editions))
            if can_be(log, editions):
                self.assertIn(history(log, editions), known)
        loose = loosened(log)
        self.assertIs(True, let_alike(loose, shortest(loose)))
        short = shortest(loose)
        for editions in self.source.sample(lists, min(20, len(lists))):
            self.assertIs(can_be(loose, editions), can_be_among(finals(log.offices, short.rows), editions))
        web = web_of(log)
        self.assertEqual(gone(log), surely_gone(web))
        self.assertEqual(most_apart(log), len(greatest_lot(web)))
        lots = {tuple(sorted(some)) for held in ends for some in self.all_parts(sorted(set(held)))}
        self.assertEqual(len(lots), count_lots(web))
        for lot in self.all_parts(range(log.offices)):
            self.assertEqual((lot in lots, lot not in lots), (ways(web, lot) is not None, block(web, lot) is not None))

    def all_parts(self, things):
        """Return all ascending tuples of some ascending things."""
        found = [()]
        for thing in things:
            found += [some + (thing,) for some in found]
        return found

    def judge_archive(self, log, finds, right):
        """Judge an archive that is led to a log and finds."""
        archive = Archive(log.offices)
        for row in log.rows:
            archive.put(len(archive.now()[0].rows), row)
        for find in finds:
            archive.show(find)
        self.assertEqual((log, tuple(finds)), archive.now())
        self.assertIs(bool(right), archive.fits())
        self.assertEqual("doing" if right else "chain", archive.paper()[0])
        for _ in range(3):
            moment, office = self.source.randint(0, len(log.rows)), self.source.randrange(log.offices)
            self.assertEqual(editions_at(log, finds, moment, office), archive.can_hold(moment, office))
        self.assertEqual(len(log.rows) + len(finds), archive.steps())

    def judge_stranger(self, log, known):
        """Judge a stranger that tells one doing."""
        doing = self.source.choice(sorted(known))
        moments = all_sheets(log, doing)
        self.assertEqual((known[doing], known[doing][-1]), (moments, sheets(log, doing)))
        some = tuple(sorted(self.source.sample(range(len(moments)), self.source.randint(1, min(len(moments), 8)))))
        finds = finds_of(log, lambda moment, office: moments[moment][office], some)
        self.assertIsNone(refuted(log, lambda moment, office: moments[moment][office], some))
        self.assertEqual(len(some) * log.offices, len(finds))
        self.assertIs(True, is_doing_for(log, finds[:40], doing))
        self.assertEqual(doing, read_doing(log, doing_text(doing)))

    def judge_texts(self, log, finds, right):
        """Judge texts, and a desk that keeps the log and its finds."""
        text = log_text(log)
        self.assertTrue(log == read_log(text))
        self.assertTrue(web_of(log) == read_web(web_text(web_of(log))))
        self.assertEqual(list(finds), read_finds(log, finds_text(log, finds)))
        if not right:
            self.assertEqual(chain(log, finds), read_chain(chain_text(chain(log, finds))))
        desk = Desk()
        desk.tell("log it " + text.replace("\n", "|"))
        for find in finds:
            desk.tell("find it {} {} {}".format(*find))
        self.assertEqual(("yes" if right else "no", str(len(right))), (desk.tell("fits it"), desk.tell("count it")))
        self.assertEqual(text, desk.tell("show it").replace("|", "\n"))
        self.assertEqual(" ".join("{}:{}:{}".format(*find) for find in finds) or "none", desk.tell("finds it"))
        for _ in range(4):
            moment, office = self.source.randint(0, len(log.rows)), self.source.randrange(log.offices)
            held = editions_at(log, finds, moment, office)
            self.assertEqual(" ".join(map(str, held)) or "none", desk.tell(f"holds it {moment} {office}"))
            self.assertEqual(told(log, finds, (moment, office, office)), desk.tell(f"told it {moment} {office} {office}"))
        for row in range(len(log.rows)):
            self.assertEqual(row_told(log, finds, row), desk.tell(f"done it {row}"))
        self.assertEqual(1 + len(finds), desk.undoable())

    def test_all_parts_agree_with_one_list_of_all_doings(self):
        fitting = [0, 0]
        for offices, rows, known, finds in with_finds(282, SIZES)[::4]:
            log = Log(offices, rows)
            right = {doing: moments for doing, moments in known.items() if true_in(moments, finds)}
            fitting[bool(right)] += 1
            turned = mirrored(log)
            last = offices - 1
            for one, some in ((log, finds), (turned, mirrored_finds(log, finds))):
                if one is turned:
                    known = {doing: run(offices, turned.rows, doing) for doing in known}
                    right = {doing: moments for doing, moments in known.items() if doing in right}
                    self.assertEqual([(m, last - o, last - v) for m, o, v in finds], some)
                self.judge_counts(one, some, right)
                self.judge_finds(one, some, right)
                self.judge_ends(one, known)
                self.judge_archive(one, some, right)
                self.judge_stranger(one, known)
                self.judge_texts(one, some, right)
            least, greatest = least_cuts(log, finds), greatest_cuts(turned, mirrored_finds(log, finds))
            if least is not None:
                # A border from one end is one from the other end, and what is least so is greatest there.
                self.assertEqual(least, tuple(tuple(offices - cut for cut in cuts[::-1]) for cuts in greatest))
        self.assertGreater(min(fitting), 5)


if __name__ == "__main__":
    unittest.main()

import random
import unittest

from oracles import some_rows
from takenover.chains import chain
from takenover.changes import behind, repeated
from takenover.errors import BadLog, NoChain, NoDoing, NoFinds, NoPost
from takenover.logs import Log
from takenover.posts import post
from takenover.reading import read_chain, read_doing, read_finds, read_log, read_post, read_web
from takenover.strangers import finds_of
from takenover.texts import chain_text, doing_text, finds_text, log_text, post_text, web_text
from takenover.webs import Web, web_of
from wrongs import K, NO_FINDS, SURE, error_of, nested, try_wrongs, wrong_but, wrong_things

BAD = [(2, 2, 0), (4, 1, 1)]


class ByHand(unittest.TestCase):
    def test_logs(self):
        for log, text in ((K, "offices 4\nrow 1 0\nrow 2 1\nrow 2 3\nrow 1 2\n"), (Log(1, ()), "offices 1\n"),
                          (SURE, "offices 4\nrow 1 0\nrow 2 1\nsure 2 3\nrow 1 2\n"), (Log(12, ()), "offices 12\n"),
                          (Log(12, ((10, 11, True), (11, 10, False))), "offices 12\nsure 10 11\nrow 11 10\n")):
            self.assertEqual(text, log_text(log))
            self.assertTrue(log == read_log(text))
            self.assertIs(Log, read_log(text).__class__)
            self.assertEqual(text, web_text(web_of(log)))
            self.assertTrue(web_of(log) == read_web(text))

    def test_webs(self):
        for web, text in ((Web(3, ((0, 2, True), (2, 0, False))), "offices 3\nsure 0 2\nrow 2 0\n"),
                          (Web(12, ((11, 0, False),)), "offices 12\nrow 11 0\n"), (Web(1, ()), "offices 1\n")):
            self.assertEqual(text, web_text(web))
            self.assertTrue(web == read_web(text))
            self.assertIs(Web, read_web(text).__class__)

    def test_finds(self):
        for log, finds, text in ((K, [], ""), (K, [(4, 1, 3)], "find 4 1 3\n"), (Log(1, ()), [(0, 0, 0)], "find 0 0 0\n"),
                                 (Log(12, ((0, 1, False),) * 60), [(60, 11, 10), (0, 0, 0)], "find 60 11 10\nfind 0 0 0\n"),
                                 (K, [(0, 0, 0)] * 40, "find 0 0 0\n" * 40)):
            self.assertEqual((text, text), (finds_text(log, finds), finds_text(log, tuple(finds))))
            self.assertEqual(finds, read_finds(log, text))
            self.assertIs(list, read_finds(log, text).__class__)

    def test_doings(self):
        for doing, text in (((True, False, True, False), "+.+."), ((), ""), ((False,), "."), ((True,) * 4, "++++")):
            self.assertEqual(text, doing_text(doing))
            self.assertEqual(doing, read_doing(Log(2, ((0, 1, False),) * len(doing)), text))

    def test_posts(self):
        for thing, text in (((2, (2, 1, 1, 1), 1), "2: 2,1,1,1: 1"), ((0, (), 12), "0: -: 12"), ((10, (0,), 0), "10: 0: 0"),
                            ((999999999, (100, 10), 7), "999999999: 100,10: 7")):
            self.assertEqual(text, post_text(thing))
            self.assertEqual(thing, read_post(text))

    def test_chains(self):
        for thing, text in (([], ""), ([(0, 1, 1), (1, 1, 2)], "bound 0 1 1\nbound 1 1 2\n"),
                            ([(999999999, 0, 10)], "bound 999999999 0 10\n")):
            self.assertEqual(text, chain_text(thing))
            self.assertEqual(thing, read_chain(text))
            self.assertIs(list, read_chain(text).__class__)

    def test_great_numbers_are_written(self):
        great = 10 ** 40 - 1
        self.assertEqual(f"{great}: {great},0: {great}", post_text((great, (great, 0), great)))
        self.assertEqual(f"bound {great} 0 {great}\n", chain_text([(great, 0, great)]))


class WrittenAndRead(unittest.TestCase):
    def test_logs_and_webs(self):
        source = random.Random(251)
        for offices in (1, 2, 5, 12):
            for many in (0, 1, 9, 60):
                log = Log(offices, some_rows(source, offices, many))
                lines = [f"offices {offices}"]
                lines += [("sure" if sure else "row") + f" {x} {y}" for x, y, sure in log.rows]
                self.assertEqual("".join(line + "\n" for line in lines), log_text(log))
                self.assertTrue(log == read_log(log_text(log)))
                rows = tuple((x, source.choice([y for y in range(offices) if y != x]), sure) for x, _, sure in log.rows)
                self.assertTrue(Web(offices, rows) == read_web(web_text(Web(offices, rows))))

    def test_more_than_sixty_rows(self):
        log = behind(repeated(K, 100), SURE)
        text = "offices 4\n" + "row 1 0\nrow 2 1\nrow 2 3\nrow 1 2\n" * 100 + "row 1 0\nrow 2 1\nsure 2 3\nrow 1 2\n"
        self.assertEqual((text, text), (log_text(log), web_text(web_of(log))))
        error = error_of(read_log, text)
        self.assertEqual((BadLog, "rows"), (error.__class__, error.part))
        finds = [(404, 3, 3), (0, 0, 0)]
        self.assertEqual("find 404 3 3\nfind 0 0 0\n", finds_text(log, finds))
        self.assertEqual(finds, read_finds(log, finds_text(log, finds)))
        doing = (True, False, True, False) * 101
        self.assertEqual("+.+." * 101, doing_text(doing))
        self.assertEqual(doing, read_doing(log, "+.+." * 101))
        thing = post(log, "left", 3, 1)
        self.assertEqual(thing, read_post(post_text(thing)))

    def test_doings_posts_and_chains_that_were_told(self):
        source = random.Random(252)
        for _ in range(30):
            doing = tuple(source.random() < 0.5 for _ in range(source.randint(0, 60)))
            self.assertEqual("".join("+" if done else "." for done in doing), doing_text(doing))
            self.assertEqual(doing, read_doing(Log(3, ((0, 1, False),) * len(doing)), doing_text(doing)))
        for side in ("left", "right"):
            for first in range(5):
                thing = post(K, side, first, 4 - first)
                text = f"{thing[0]}: {','.join(map(str, thing[1]))}: {thing[2]}"
                self.assertEqual((text, thing), (post_text(thing), read_post(text)))
        told = chain(K, BAD)
        self.assertEqual("".join(f"bound {m} {a} {c}\n" for m, a, c in told), chain_text(told))
        self.assertEqual(told, read_chain(chain_text(told)))


class Wrongs(unittest.TestCase):
    def test_no_finds(self):
        for log in (K, SURE):
            for finds in (BAD, tuple(BAD), []):
                try_wrongs(self, finds_text, (log, finds), [(1, NoFinds, NO_FINDS)])
        told = finds_of(K, lambda moment, office: office, tuple(range(5)))
        self.assertEqual(20, finds_text(K, told).count("\n"))
        self.assertIs(NoFinds, error_of(finds_text, K, told * 3).__class__)

    def test_no_doings(self):
        right = [(True,), (False,), ()]
        wrong = [thing for thing in wrong_things() if not isinstance(thing, tuple) or any(one not in (True, False)
                                                                                           for one in thing)]
        wrong += [(0,), (1, True), (True, None), [True], (True, 0), ("+",), "+", (True, (True,)), (False, nested(tuple, 38))]
        for thing in wrong:
            self.assertIs(NoDoing, error_of(doing_text, thing).__class__, thing)
        for thing in right:
            self.assertIsNone(error_of(doing_text, thing))
        self.assertEqual("." * 9999, doing_text((False,) * 9999))

    def test_no_posts(self):
        wrong = wrong_but([]) + [(0, (), -1), (-1, (), 0), (0, (-1,), 0), (0, (True,), 0), (0, (0, None), 0), (0, 0, 0)]
        wrong += [(0, [0], 0), [0, (0,), 0], (0, ()), (0, (), 0, 0), (0, (), False), (False, (), 0), (0, ("0",), 0), (0, "", 0)]
        wrong += [("0", (), 0), (0, ((0,),), 0), (0, nested(tuple, 38), 0), (0, (0,), nested(list, 38)), (0, Log(1, ()), 0)]
        wrong += [(0, {}, 0), (0, range(3), 0), {0: 0}, "0: -: 0", (0, (0, 10 ** 39, -1), 0)]
        for thing in wrong:
            self.assertIs(NoPost, error_of(post_text, thing).__class__, thing)

    def test_no_chains(self):
        wrong = wrong_but([[], [(0, 0, 0)]]) + [((0, 0, 0),), (), [(0, 0)], [(0, 0, 0, 0)], [[0, 0, 0]], [(0, 0, -1)], [(-1, 0, 0)]]
        wrong += [[(0, -1, 0)], [(True, 0, 0)], [(0, False, 0)], [(0, 0, None)], [(0, 0, 0), None], [(0, 0, "0")], ["000"]]
        wrong += [[(0, 0, nested(tuple, 37))], [nested(tuple, 39)], {(0, 0, 0): 1}, iter([(0, 0, 0)]), "bound 0 0 0\n", [Log(1, ())]]
        for thing in wrong:
            self.assertIs(NoChain, error_of(chain_text, thing).__class__, thing)

    def test_arguments_stay(self):
        told, finds = chain(K, BAD), list(BAD)
        kept = list(told)
        self.assertEqual(chain_text(told), chain_text(kept))
        self.assertEqual(finds_text(K, finds), finds_text(K, tuple(finds)))
        self.assertEqual((kept, BAD), (told, finds))


if __name__ == "__main__":
    unittest.main()

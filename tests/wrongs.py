"""Wrong things to pass, and one way to try them at every argument of a function."""

import math

from takenover.archives import Archive
from takenover.desks import Desk
from takenover.errors import BadLog, NoAnswer, NoDoing
from takenover.logs import Log
from takenover.webs import Web


K = Log(4, ((1, 0, False), (2, 1, False), (2, 3, False), (1, 2, False)))
SURE = Log(4, K.rows[:2] + ((2, 3, True), (1, 2, False)))


def nested(kind, deep):
    """Return things of a kind nested so deep."""
    inner = 0
    for _ in range(deep):
        inner = {0: inner} if kind is dict else kind([inner])
    return inner


def a_generator():
    yield 0


def wrong_things():
    """Return objects of many kinds, none of them an integer from 0 on, new at each call."""
    out = [None, True, False, -1, -(10 ** 39), "", "0", "Left", "left ", "LEFT", "up", "\t\n~", b"", b"left"]
    out += [bytearray(b"left"), memoryview(b"left"), range(4), range(0), slice(0, 1), Ellipsis, NotImplemented]
    out += [{}, {0: 0}, {"left": (0,)}, [], [0], [[]], [(0, 0, 0)], (), (0,), ((),), ("left",), (True,), (False,)]
    out += [((0, 0, 0), (0, 0)), ("post", "left"), ("fall", 0), ("fall", 0, 1), ("post", "left", (0, (), 0))]
    out += [(None, (), None), (0, [], 0), [0, (), 0], (0, (), True), (True, (), 0), (0, (None,), 0)]
    out += [object(), int, tuple, Log, NoDoing, len, math, nested, lambda thing: thing, a_generator(), iter([0])]
    out += [iter(()), map(str, ()), property(), ValueError("left"), NoDoing(), BadLog("rows"), NoAnswer(0, [1])]
    out += [Log(1, ()), Log(4, ((1, 0, True),)), (Log(1, ()),), [Log(1, ())], (NoDoing(), NoDoing(), NoDoing())]
    out += [Web(1, ()), Web(4, ((0, 3, True),)), (Web(1, ()),), [Web(4, ())], Archive(4), (Archive(1),), Web, Archive]
    out += [Desk(), [Desk()], (Desk(), Desk()), Desk]
    for deep in (36, 40):
        out += [nested(tuple, deep), nested(list, deep), nested(dict, deep), (nested(list, deep - 1), 0, 0)]
        out += [("post", "left", nested(tuple, deep - 1)), (0, nested(tuple, deep - 1), 0)]
    out += [(0,) * 9999, [0] * 9999, (False,) * 9999, "x" * 20000, (10 ** 39,), (10 ** 39,) * 3]
    return out


def wrong_but(rights):
    """Return wrong things without those that are equal to one of these."""
    kinds = (int, str, list, tuple, dict, bool)
    return [thing for thing in wrong_things() if not any(isinstance(thing, kinds) and thing.__class__ is one.__class__
                                                         and thing == one for one in rights)]


def no_finds(most):
    """Return what are no finds of a log of 4 offices and 4 rows, of which at most so many are let."""
    out = wrong_but([[], (), [(0, 0, 0)]])
    out += [[(5, 0, 0)], [(-1, 0, 0)], [(0, 4, 0)], [(0, -1, 0)], [(0, 0, 4)], [(0, 0, -1)], [(0, 0)], [(0, 0, 0, 0)]]
    out += [[(True, 0, 0)], [(0, False, 0)], [(0, 0, False)], [[0, 0, 0]], [(None, 0, 0)], (0, 0, 0), [((0, 0, 0),)]]
    out += [[(0, 0, 0)] * (most + 1), ((0, 0, 0),) * (most + 1), [(0, 0, 0), (4, 4, 4)], {(0, 0, 0): 1}]
    out += [[(0, 0, nested(tuple, 37))], [(nested(list, 38), 0, 0)], [(10 ** 39, 0, 0)], ["000"], [(0, "0", 0)]]
    return out + [[(0, 0, Log(1, ()))], (x for x in [(0, 0, 0)]), iter([(0, 0, 0)])]


def wrong_numbers():
    """Return what is no number of anything."""
    return wrong_things() + [10 ** 39, 10 ** 40 - 1, 99]


def error_of(function, *args):
    """Return the error that a call raises, None if it raises none."""
    try:
        function(*args)
    except Exception as error:
        return error
    return None


def put_at(args, changes):
    """Return arguments with some of them changed."""
    return [changes.get(at, arg) for at, arg in enumerate(args)]


def try_wrongs(case, function, args, errors):
    """Try wrong things at arguments that have an error.

    The errors are triples (number of the argument, error class, list of wrong
    things), in the order in which the errors come first. Each wrong thing is
    tried alone, then beside a wrong thing for each later argument; the right
    call must answer the same ahead of all this and behind it.
    """
    answer = function(*args)
    for place, (at, error, things) in enumerate(errors):
        for thing in things:
            raised = error_of(function, *put_at(args, {at: thing}))
            case.assertIs(error, raised.__class__, (function.__name__, at, str(thing)[:80]))
            for later, _, others in errors[place + 1:]:
                for other in (others[0], others[-1]):
                    raised = error_of(function, *put_at(args, {at: thing, later: other}))
                    case.assertIs(error, raised.__class__, (function.__name__, at, later))
        case.assertEqual(answer, function(*args))


NO_FINDS = no_finds(40)
HALVES = ((1, 2),) * 4
NO_CHANCES = wrong_but([()]) + [HALVES[:3], HALVES + HALVES[:1], list(HALVES)]
NO_FRACTIONS = [(2, 4), (0, 2), (5, 5), (1, 0), (0, 0), (-1, 2), (1, -2), (-1, -2), (0, -1), (3, 2), (2, 1), (True, 2),
                (1, True), (False, 1), (0, True), (1,), (1, 2, 3), [1, 2], None, 0, 1, "12", "1/2", (1, None), ("1", 2),
                (nested(tuple, 38), 1), (1, nested(list, 38)), (10 ** 39, 1), Log(1, ()), {1: 2}, (10, 10 ** 39)]
NO_CHANCES += [HALVES[:at] + (one,) + HALVES[at + 1:] for one in NO_FRACTIONS for at in (0, 2, 3)]

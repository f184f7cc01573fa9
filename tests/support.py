"""How the tests write calls and read answers. Only the interface of DOC.md is used."""

import unittest

from cellline.plant import answers

BAD_FORM = [-100]
OUT_OF_RANGE = [-1]
NOT_LAID = [-2]
REFUSED = [-3]

HUGE = 1000000000000000000


def lay(n=2, c=1, k=1, v=1000):
    return [0, n, c, k, v]


def recipe(pn, pd, qn, qd):
    return [1, pn, pd, qn, qd]


def hang(which, v, p, q, r):
    return [2, which, v, p, q, r]


def flow(f):
    return [3, f]


def window(lo, hi, tlo, thi):
    return [4, lo, hi, tlo, thi]


def control(target, kp, ki, im):
    return [5, target, kp, ki, im]


def heat(setpoint, band, power, inlet):
    return [6, setpoint, band, power, inlet]


def apart(d, td):
    return [7, d, td]


def tick(m=1):
    return [8, m]


def fault(channel, mode, v=0):
    return [9, channel, mode, v]


def stuck(channel, v):
    return fault(channel, 1, v)


def off(channel, v):
    return fault(channel, 2, v)


def true(channel, v=0):
    return fault(channel, 0, v)


def hold(x):
    return [10, x]


CHECK = [11]
LOOK = [12]


def cell(i):
    return [13, i]


CHAMBER = [14]


def supply(which):
    return [15, which]


TOTALS = [16]


def would(m=1):
    return [17, m]


TIME = [18]

WIDE = window(0, 1000000, 0, 10000)

LOOK_NAMES = (
    "bypass", "good", "held", "latch_c", "latch_t", "unlike_c", "unlike_t",
    "heater", "gathered_a", "gathered_b", "sum", "trim",
)


def packed(calls):
    """The list that is handed in for these calls."""
    handed = []
    for call in calls:
        handed.extend([0, len(call)])
        handed.extend(call)
    return handed


def unpacked(given):
    """The answers, one list a call."""
    found = []
    at = 0
    while at < len(given):
        size = given[at]
        if size < 1 or at + 1 + size > len(given):
            raise AssertionError(f"an answer of {size} numbers at {at} of {len(given)}")
        found.append(given[at + 1:at + 1 + size])
        at += 1 + size
    return found


def run(calls):
    """What each of these calls answers."""
    given = answers(packed(calls))
    if type(given) is not list or any(type(x) is not int for x in given):
        raise AssertionError("not a list of whole numbers")
    found = unpacked(given)
    if len(found) != len(calls):
        raise AssertionError(f"{len(found)} answers to {len(calls)} calls")
    return found


def last(calls):
    """What the last of these calls answers."""
    return run(calls)[-1]


def looked(calls):
    """What look tells after these calls, by name."""
    answer = last(list(calls) + [LOOK])
    if len(answer) != len(LOOK_NAMES):
        raise AssertionError(f"look answered {answer}")
    return dict(zip(LOOK_NAMES, answer))


def probe():
    """Calls that show all that is there, and by ticks also what was told."""
    calls = [LOOK, CHAMBER, TOTALS, TIME, supply(0), supply(1)]
    calls.extend(cell(i) for i in range(32))
    calls.extend([would(9), tick(7), LOOK, CHAMBER, TOTALS, TIME, cell(0), CHECK, LOOK])
    calls.extend([flow(333), tick(5), LOOK, CHAMBER, TOTALS, supply(0), supply(1), cell(0)])
    return calls


def busy():
    """A session in which nothing that can be above 0 or told is at its beginning."""
    return [
        lay(5, 2, 4, 1500),
        recipe(1, 30, 1, 20),
        hang(0, 100000, 90, 20, 7),
        hang(1, 100000, 11, 30, 60),
        flow(211),
        window(10, 900, 1000, 4000),
        control(140, 300, 20, 5000),
        heat(2600, 40, 90000, 1500),
        apart(3, 30),
        tick(17),
        off(1, 2),
        off(2, -20),
        hold(1),
        tick(3),
        hold(0),
        tick(4),
        off(3, 60),
        tick(1),
    ]


class CallsTest(unittest.TestCase):
    """Tests of lists of calls."""

    maxDiff = None

    def assert_changes_nothing(self, before, call):
        """The call, whatever it answers, leaves all that a probe shows as it was."""
        without = run(before + probe())[len(before):]
        with_it = run(before + [call] + probe())[len(before) + 1:]
        self.assertEqual(without, with_it, call)

    def assert_refused(self, before, call, refusal):
        """The call is refused so, and nothing is changed."""
        self.assertEqual(last(before + [call]), refusal, call)
        self.assert_changes_nothing(before, call)

    def assert_look(self, calls, **wanted):
        """Of what look tells after the calls, these numbers."""
        found = looked(calls)
        self.assertEqual({name: found[name] for name in wanted}, wanted)

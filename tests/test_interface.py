"""The interface: how calls and answers stand in their lists, and that nothing is changed or kept."""

import contextlib
import io
import sys
import unittest

from cellline import plant
from cellline.plant import answers
from tests.sessions import session
from tests.support import (
    BAD_FORM, CHAMBER, LOOK, REFUSED, TIME, TOTALS, WIDE, CallsTest, busy, cell, flow, hang, last, lay, packed, probe,
    run, stuck, tick, unpacked, would,
)


class Untouchable(list):
    """A list that can only be read."""

    def refuse(self, *args, **kwargs):
        raise AssertionError("what was handed in is changed")

    append = extend = insert = pop = remove = clear = sort = reverse = refuse
    __setitem__ = __delitem__ = __iadd__ = __imul__ = refuse


class InterfaceTest(CallsTest):
    def test_one_call(self):
        self.assertEqual(answers([0, 5, 0, 2, 1, 1, 1000]), [1, 0])
        self.assertEqual(answers([0, 1, 12]), [1, -2])
        self.assertEqual(answers([0, 1, 99]), [1, -100])
        self.assertEqual(answers([0, 2, 8, 0]), [1, -1])

    def test_calls_one_behind_another(self):
        self.assertEqual(
            answers([0, 1, 18, 0, 5, 0, 2, 1, 1, 1000, 0, 1, 18, 0, 2, 15, 1, 0, 2, 13, 2, 0, 2, 13, 1]),
            [1, -2, 1, 0, 3, 0, 0, 1, 4, 0, 0, 0, 0, 1, -3, 7, 1000, 0, 0, 0, 2000000, 0, 2000],
        )

    def test_arguments_in_the_list_are_not_taken_for_calls(self):
        self.assertEqual(answers([0, 4, 0, 1, 12, 0, 0, 3, 0, 1, 12, 0, 1, 12]), [1, -100, 1, -100, 1, -2])

    def test_how_many_numbers_each_call_answers(self):
        calls = [lay(), flow(3), LOOK, cell(0), CHAMBER, [15, 0], TOTALS, TIME, tick(3), [11], would(2)]
        self.assertEqual([len(answer) for answer in run(calls)], [1, 1, 12, 7, 7, 4, 20, 3, 6, 1, 6])

    def test_refusals_stand_alone(self):
        calls = [LOOK, lay(), [99], [8, 0], cell(9), LOOK]
        self.assertEqual(answers(packed(calls))[:10], [1, -2, 1, 0, 1, -100, 1, -1, 1, -3])

    def test_400_calls(self):
        calls = [lay()] + [LOOK] * 399
        self.assertEqual(run(calls), [[0]] + [[1] + [0] * 11] * 399)
        calls = [lay(32, 0, 32), WIDE, flow(5000)] + [would(200)] * 397
        self.assertEqual([len(answer) for answer in run(calls)[3:]], [6 + 2 * 168] * 397)
        long = [[7] + [1] * 19] * 400
        self.assertEqual(run(long), [BAD_FORM] * 400)

    def test_the_list_is_the_same_after_the_call(self):
        for calls in (busy() + probe(), session(7, 100), [[5] * 20]):
            handed = packed(calls)
            kept = list(handed)
            answers(handed)
            self.assertEqual(handed, kept)

    def test_the_list_is_not_changed_for_a_while_either(self):
        for calls in (busy() + probe(), session(7, 100), [[5] * 20]):
            self.assertEqual(answers(Untouchable(packed(calls))), answers(packed(calls)))

    def test_nothing_is_kept_from_one_time_to_the_next(self):
        for calls in (busy() + probe(), session(9, 100), [lay()] * 51, [lay()] + [hang(0, 1, 1, 1, 1)] * 101):
            handed = packed(calls)
            first = answers(handed)
            answers(packed(busy() + [stuck(1, 7), tick(9)]))
            self.assertEqual(answers(handed), first)
        self.assertEqual(last([LOOK]), [-2])

    def test_what_was_given_back_is_the_caller_s(self):
        handed = packed(busy() + probe())
        first = answers(handed)
        kept = list(first)
        first.clear()
        self.assertEqual(answers(handed), kept)

    def test_it_prints_and_reads_nothing(self):
        out, err = io.StringIO(), io.StringIO()
        stdin = sys.stdin
        sys.stdin = None
        try:
            with contextlib.redirect_stdout(out), contextlib.redirect_stderr(err):
                answers(packed(busy() + probe()))
        finally:
            sys.stdin = stdin
        self.assertEqual((out.getvalue(), err.getvalue()), ("", ""))

    def test_the_name(self):
        self.assertIs(plant.answers, answers)
        self.assertEqual(answers(calls=[0, 1, 12]), [1, -2])


class LimitsTest(CallsTest):
    def test_all_limits_in_one_list(self):
        calls = [lay(32, 31, 1, 1000) for i in range(50)] + [hang(i % 2, 9, 1, 1, 1) for i in range(100)]
        calls += [WIDE, flow(100)] + [tick(200)] * 100 + [lay(), hang(0, 1, 1, 1, 1), tick(1), would(1), TIME]
        found = run(calls)
        self.assertNotIn(REFUSED, found[:-5])
        self.assertEqual(found[-5:-2], [REFUSED] * 3)
        self.assertEqual(found[-2][:6], [0, 1, 0, 0, 0, 1])
        self.assertEqual(found[-1], [20000, 100, 50])

    def test_the_limits_are_apart_from_one_another(self):
        self.assertEqual(run([lay()] * 51 + [hang(0, 1, 1, 1, 1), tick(1)])[-3:], [REFUSED, [0], [1, 0, 0, 0, 0, 0]])
        self.assertEqual(run([lay()] + [hang(0, 0, 1, 1, 1)] * 101 + [lay(), tick(1)])[-3:],
                         [REFUSED, [0], [1, 0, 0, 0, 0, 0]])
        self.assertEqual(run([lay()] + [tick(200)] * 101 + [lay(), hang(0, 1, 1, 1, 1)])[-3:], [REFUSED, [0], [0]])

    def test_a_refusal_uses_nothing_up(self):
        self.assertEqual(run([lay()] + [lay(1, 1, 1, 1)] * 60 + [lay()] * 49 + [lay()])[-2:], [[0], REFUSED])
        calls = [lay()] + [hang(2, 0, 0, 0, 0)] * 110 + [hang(0, 0, 0, 0, 0)] * 101
        self.assertEqual(run(calls)[-2:], [[0], REFUSED])
        calls = [lay()] + [tick(200)] * 99 + [tick(150)] + [tick(51)] * 20 + [tick(50), tick(1)]
        self.assertEqual(run(calls)[-3:], [REFUSED, [1, 0, 0, 0, 0, 0], REFUSED])


class BalanceTest(CallsTest):
    def assert_balanced(self, calls, n):
        found = run(calls + [TOTALS, CHAMBER] + [cell(i) for i in range(n)])[len(calls):]
        totals = found[0]
        inside = [sum(mix[i] for mix in found[1:]) for i in range(5)]
        gone = [totals[5 + i] + totals[10 + i] + totals[15 + i] for i in range(5)]
        self.assertEqual(totals[:5], [inside[i] + gone[i] for i in range(5)])
        self.assertTrue(all(x >= 0 for x in totals))

    def test_after_every_call(self):
        for seed in range(1, 25):
            calls = session(seed, 60)
            n = None
            for size, (call, answer) in enumerate(zip(calls, run(calls)), start=1):
                if call[0] == 0 and answer == [0]:
                    n = call[1]
                if n is not None:
                    self.assert_balanced(calls[:size], n)

    def test_after_many_ticks_and_lines(self):
        calls = busy() + [tick(200)] * 50 + [lay(32, 3, 40, 5000)] + [tick(200)] * 40 + [lay(3, 0, 3)] + [tick(7)]
        self.assert_balanced(calls, 3)

    def test_all_four_totals_are_at_work(self):
        found = last(busy() + [lay(), tick(5), TOTALS])
        self.assertTrue(all(x > 0 for x in found), found)


class WouldThenTickTest(CallsTest):
    def test_in_any_session(self):
        # A would before every tick answers the same, and changes no answer that comes after.
        for seed in range(40):
            calls = session(seed, 50)
            alone = run(calls)
            with_would = []
            for call in calls:
                if call[0] == 8:
                    with_would.append([17] + call[1:])
                with_would.append(call)
            found = iter(run(with_would))
            for call, wanted in zip(calls, alone):
                if call[0] == 8:
                    self.assertEqual(next(found), wanted)
                self.assertEqual(next(found), wanted)


class UnpackTest(unittest.TestCase):
    def test_the_tests_own_reader(self):
        self.assertEqual(unpacked([1, -2, 3, 4, 5, 6]), [[-2], [4, 5, 6]])
        for given in ([2, 1], [0], [1]):
            with self.assertRaises(AssertionError):
                unpacked(given)


if __name__ == "__main__":
    unittest.main()

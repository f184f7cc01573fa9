"""The promises 0 to 18, one class each; the steps of a tick are tested in test_tick.py."""

import unittest

from tests.support import (
    CHAMBER, CHECK, LOOK, REFUSED, TIME, TOTALS, WIDE, CallsTest, apart, busy, cell, control, flow, hang, heat,
    hold, last, lay, looked, off, recipe, run, stuck, supply, tick, true, window, would,
)

LAID_CELL = [1000, 0, 0, 0, 2000000, 0, 2000]
NONE = [0, 0, 0, 0, 0]


def cells_of(calls):
    """What cell tells of all 32 cells after these calls."""
    return run(list(calls) + [cell(i) for i in range(32)])[len(calls):]


class Lay(CallsTest):
    def test_answer(self):
        self.assertEqual(last([lay(2, 1, 1, 1000)]), [0])
        self.assertEqual(last([lay(32, 0, 1000, 1000000)]), [0])
        self.assertEqual(last([lay(), lay()]), [0])

    def test_chamber_and_cells(self):
        for n in (2, 3, 17, 32):
            calls = [lay(n, 0, n, 1234)]
            self.assertEqual(last(calls + [CHAMBER]), [1234, 0, 0, 0, 2468000, 0, 2000])
            self.assertEqual(cells_of(calls), [LAID_CELL] * n + [REFUSED] * (32 - n))

    def test_what_was_laid_has_come_in(self):
        self.assertEqual(last([lay(3, 0, 3, 5000), TOTALS]), [8000, 0, 0, 0, 16000000] + NONE * 3)

    def test_what_was_there_is_thrown_away(self):
        self.assertEqual(
            last([lay(3, 0, 3, 5000), lay(2, 0, 2, 1000), TOTALS]),
            [11000, 0, 0, 0, 22000000] + NONE * 2 + [8000, 0, 0, 0, 16000000],
        )

    def test_chamber_and_every_cell_are_thrown_away_as_they_are(self):
        before = busy()
        inside = run(before + [CHAMBER] + [cell(i) for i in range(5)])[-6:]
        thrown = [sum(mix[i] for mix in inside) for i in range(5)]
        old = last(before + [TOTALS])
        new = last(before + [lay(4, 1, 9, 2000), TOTALS])
        came_in = [old[0] + 6000, old[1], old[2], old[3], old[4] + 12000000]
        self.assertEqual(new, came_in + old[5:15] + thrown)

    def test_a_longer_and_a_shorter_line(self):
        self.assertEqual(cells_of([lay(9, 0, 9), lay(4, 0, 4)])[3:5], [LAID_CELL, REFUSED])
        self.assertEqual(cells_of([lay(4, 0, 4), lay(9, 0, 9)])[8:10], [LAID_CELL, REFUSED])

    def test_the_guard_begins_anew(self):
        before = busy() + [stuck(0, 1), stuck(2, 1), tick(2), true(0), true(1), true(2), true(3)]
        found = looked(before)
        for name in ("latch_c", "latch_t", "unlike_c", "unlike_t", "heater", "gathered_a", "gathered_b", "sum", "trim"):
            self.assertNotEqual(found[name], 0, name)
        self.assertEqual(last(before + [lay(), LOOK]), [1] + [0] * 11)

    def test_good_becomes_0_and_bypass_is_on(self):
        before = [lay(), flow(10), WIDE, tick(3)]
        self.assert_look(before, bypass=0, good=1)
        self.assert_look(before + [lay()], bypass=1, good=0)

    def test_held_stays(self):
        self.assert_look([lay(), hold(1), lay()], held=1)
        self.assert_look([lay(), hold(1), lay(), WIDE, flow(10), tick(5)], held=1, good=1, bypass=1)

    def test_channels_containers_and_what_was_told_stay(self):
        told = busy()[1:9]
        faults = [off(1, 2), stuck(2, 2100), off(3, -7)]
        after = [tick(20), LOOK, CHAMBER, cell(0), supply(0), supply(1), CHECK]
        again = run([lay()] + told + faults + [lay(6, 3, 8, 3000)] + after)[-len(after):]
        anew = run([lay(6, 3, 8, 3000)] + told + faults + after)[-len(after):]
        self.assertEqual(again, anew)
        self.assertEqual(again[-1], [14])

    def test_c_and_k_are_told(self):
        # All four readings are good from the first tick on, so bypass goes off in tick k.
        before = [flow(10), WIDE]
        self.assert_look([lay(4, 1, 3)] + before + [tick(2)], good=2, bypass=1)
        self.assert_look([lay(4, 1, 3)] + before + [tick(3)], good=3, bypass=0)
        self.assert_look([lay(4, 1, 3), lay(4, 1, 5)] + before + [tick(9)], good=5, bypass=0)
        self.assert_look([lay(4, 1, 5), lay(4, 1, 4)] + before + [tick(9)], good=4, bypass=0)

    def test_the_counts_stay(self):
        self.assertEqual(last([lay(), hang(0, 1, 0, 0, 0), tick(7), lay(), TIME]), [7, 1, 2])

    def test_50_lines(self):
        fifty = [lay(2 + i % 31, 1, 40, 1000 + i) for i in range(50)]
        self.assertEqual(run(fifty), [[0]] * 50)
        self.assert_refused(fifty, lay(), REFUSED)
        self.assertEqual(last(fifty + [lay(), lay(), TIME]), [0, 0, 50])


class Recipe(CallsTest):
    def test_answer(self):
        self.assertEqual(last([lay(), recipe(1, 35, 1, 20)]), [0])

    def test_just_all_of_the_flow_is_taken(self):
        for call in (
            recipe(10, 13, 0, 1), recipe(0, 1, 1, 1), recipe(1, 13, 9, 10), recipe(5, 13, 1, 2),
            recipe(1, 2, 7, 20), recipe(500000, 1000000, 350000, 1000000), recipe(769230, 1000000, 1, 1000000),
        ):
            self.assertEqual(last([lay(), call]), [0], call)

    def test_more_than_all_of_the_flow_is_refused(self):
        for call in (
            recipe(1, 1, 0, 1), recipe(1, 1, 1, 1), recipe(10, 12, 0, 1), recipe(769231, 1000000, 0, 1),
            recipe(1, 1000000, 1, 1), recipe(1, 13, 900001, 1000000), recipe(500001, 1000000, 350000, 1000000),
            recipe(500000, 1000000, 350001, 1000000), recipe(769230, 1000000, 2, 1000000),
        ):
            self.assert_refused(busy(), call, REFUSED)

    def test_it_is_exact_where_floats_are_not(self):
        # 1.3 * 769230 is 999999, and 1.3 * 230769 is 299999.7, which is 300000 less a millionth of it.
        self.assertEqual(last([lay(), recipe(769230, 999999, 0, 1)]), [0])
        self.assertEqual(last([lay(), recipe(769230, 999998, 0, 1)]), REFUSED)
        self.assertEqual(last([lay(), recipe(769230, 999999, 1, 1000000)]), REFUSED)
        self.assertEqual(last([lay(), recipe(230769, 300000, 1, 1000000)]), [0])
        self.assertEqual(last([lay(), recipe(230769, 300000, 1, 999999)]), REFUSED)

    def test_what_is_gathered_becomes_0(self):
        before = [lay(), recipe(1, 7, 1, 9), flow(10), tick()]
        self.assert_look(before, gathered_a=3000, gathered_b=1)
        self.assert_look(before + [recipe(1, 7, 1, 9)], gathered_a=0, gathered_b=0)
        self.assert_look(before + [recipe(1, 1, 1, 1)], gathered_a=3000, gathered_b=1)

    def test_it_is_the_recipe_from_now_on(self):
        before = [lay(), hang(0, 1000, 1, 0, 0), hang(1, 1000, 0, 1, 0), flow(60)]
        self.assertEqual(run(before + [recipe(1, 5, 1, 6), tick(), supply(0), supply(1)])[-2:],
                         [[988, 1, 0, 0], [990, 0, 1, 0]])
        self.assertEqual(run(before + [recipe(1, 5, 1, 6), recipe(2, 30, 2, 4), tick(), supply(0), supply(1)])[-2:],
                         [[996, 1, 0, 0], [970, 0, 1, 0]])

    def test_only_gathered_changes_else(self):
        before = busy()
        wanted = looked(before)
        wanted.update(gathered_a=0, gathered_b=0)
        self.assertEqual(looked(before + [recipe(1, 30, 1, 20)]), wanted)


class Hang(CallsTest):
    def test_the_answer_is_what_was_left(self):
        calls = [lay(), hang(0, 500, 1, 2, 3), hang(1, 70, 4, 5, 6), hang(0, 20, 0, 0, 0), hang(1, 0, 7, 8, 9),
                 hang(0, 1, 1, 1, 1), hang(1, 1, 1, 1, 1)]
        self.assertEqual(run(calls), [[0], [0], [0], [500], [70], [20], [0]])

    def test_after_some_was_drawn(self):
        before = [lay(), recipe(1, 10, 1, 5), hang(0, 500, 1, 2, 3), hang(1, 500, 1, 2, 3), flow(100), tick(3)]
        self.assertEqual(last(before + [hang(0, 9, 9, 9, 9)]), [470])
        self.assertEqual(last(before + [hang(1, 9, 9, 9, 9)]), [440])

    def test_the_new_container(self):
        calls = [lay(), hang(0, 10000000, 10000, 1, 2), hang(1, 7, 3, 4, 10000), supply(0), supply(1)]
        self.assertEqual(run(calls)[-2:], [[10000000, 10000, 1, 2], [7, 3, 4, 10000]])

    def test_what_was_left_is_counted_nowhere(self):
        before = busy()
        self.assertEqual(last(before + [TOTALS]), last(before + [hang(0, 5, 1, 1, 1), hang(1, 5, 1, 1, 1), TOTALS]))

    def test_nothing_else_changes(self):
        before = busy()
        self.assertEqual(last(before + [LOOK]), last(before + [hang(0, 5, 1, 1, 1), hang(1, 5, 1, 1, 1), LOOK]))

    def test_100_containers(self):
        hundred = [lay()] + [hang(i % 2, i, i, i, i) for i in range(100)]
        self.assertEqual(run(hundred)[1:], [[0], [0]] + [[i] for i in range(98)])
        for which in (0, 1):
            self.assert_refused(hundred, hang(which, 5, 5, 5, 5), REFUSED)
        self.assertEqual(run(hundred + [lay(), hang(0, 5, 5, 5, 5), supply(0), TIME])[-3:],
                         [REFUSED, [98, 98, 98, 98], [0, 100, 2]])


class Flow(CallsTest):
    def test_answer(self):
        self.assertEqual(run([lay(), flow(0), flow(5000), flow(3)])[1:], [[0]] * 3)

    def test_it_is_the_flow_from_now_on(self):
        calls = [lay(3, 0, 3), flow(10), tick(), flow(5000), tick(), flow(0), tick(), flow(1), tick()]
        self.assertEqual([mix[0] for mix in cells_of(calls)[:3]], [1, 5000, 10])

    def test_nothing_else_changes(self):
        before = busy()
        for call in (LOOK, CHAMBER, TOTALS, TIME, supply(0)):
            self.assertEqual(last(before + [call]), last(before + [flow(3), call]))


class Window(CallsTest):
    def test_answer(self):
        self.assertEqual(last([lay(), window(5, 5, 6, 6)]), [0])

    def test_good_becomes_0_and_bypass_is_on(self):
        before = [lay(2, 1, 3), flow(10), WIDE, tick(3)]
        self.assert_look(before, bypass=0, good=3)
        self.assert_look(before + [WIDE], bypass=1, good=0)
        self.assertEqual(last(before + [WIDE, tick(3)])[:6], [0, 3, 0, 0, 0, 0])

    def test_nothing_else_changes(self):
        before = busy()
        wanted = looked(before)
        wanted.update(good=0, bypass=1)
        self.assertEqual(looked(before + [window(1, 2, 3, 4)]), wanted)


class Control(CallsTest):
    def test_answer(self):
        self.assertEqual(last([lay(), control(1, 2, 3, 4)]), [0])

    def test_sum_and_trim_become_0(self):
        before = [lay(), flow(10), control(100, 1000, 1000, 1000), tick(2)]
        self.assert_look(before, sum=200, trim=300)
        self.assert_look(before + [control(100, 1000, 1000, 1000)], sum=0, trim=0)
        self.assert_look(before + [control(70, 10, 20, 60), tick()], sum=60, trim=1)

    def test_nothing_else_changes(self):
        before = busy()
        wanted = looked(before)
        wanted.update(sum=0, trim=0)
        self.assertEqual(looked(before + [control(1, 2, 3, 4)]), wanted)


class Heat(CallsTest):
    def test_answer(self):
        self.assertEqual(last([lay(), heat(1, 2, 3, 4)]), [0])

    def test_the_heater_is_off(self):
        before = [lay(), flow(10), heat(3000, 10, 5, 0), tick()]
        self.assert_look(before, heater=1)
        self.assert_look(before + [heat(3000, 10, 5, 0)], heater=0)

    def test_nothing_else_changes(self):
        before = busy()
        wanted = looked(before)
        wanted.update(heater=0)
        self.assertEqual(looked(before + [heat(1, 2, 3, 4)]), wanted)


class Apart(CallsTest):
    def test_answer(self):
        self.assertEqual(last([lay(), apart(1, 2)]), [0])

    def test_both_are_told(self):
        before = [lay(), flow(10), off(1, 8), off(3, 9), apart(8, 9)]
        self.assert_look(before + [tick()], unlike_c=0, unlike_t=0)
        self.assert_look(before + [apart(7, 9), tick()], unlike_c=1, unlike_t=0)
        self.assert_look(before + [apart(8, 8), tick()], unlike_c=0, unlike_t=1)

    def test_nothing_else_changes(self):
        before = busy()
        self.assertEqual(looked(before), looked(before + [apart(0, 0)]))


class Tick(CallsTest):
    def test_m_ticks_one_after_another(self):
        before = busy()
        after = [LOOK, CHAMBER, TOTALS, supply(0), supply(1)] + [cell(i) for i in range(5)]
        for m in (1, 2, 30, 200):
            at_once = run(before + [tick(m)] + after + [TIME])
            one_by_one = run(before + [tick()] * m + after + [TIME])
            self.assertEqual(at_once[len(before) + 1:], one_by_one[len(before) + m:])
            led = []
            for answer in one_by_one[len(before):len(before) + m]:
                led.extend(answer[6:])
            self.assertEqual(at_once[len(before)], one_by_one[len(before) + m - 1][:5] + [len(led) // 2] + led)

    def test_the_first_five_numbers_are_those_of_look(self):
        for before in (busy(), busy() + [hold(1)], busy() + [stuck(1, 5)], busy() + [stuck(3, 5)], [lay(), WIDE]):
            answers = run(before + [tick(2), LOOK])
            self.assertEqual(answers[-2][:5], answers[-1][:5])
        self.assertEqual(last([lay(), WIDE, flow(1), hold(1), stuck(1, 5), tick(2)]), [1, 1, 1, 1, 0, 0])
        self.assertEqual(last([lay(), WIDE, flow(1), stuck(3, 5), tick(2)]), [1, 1, 0, 0, 1, 1, 0, 2000])

    def test_cells_led_on_in_order(self):
        # Two cells of plain water, inlet 0: the chamber cools, and cell by cell that arrives at the valve.
        calls = [lay(2, 0, 2, 1000), WIDE, flow(1000), tick(5)]
        self.assertEqual(run(calls)[-1], [0, 2, 0, 0, 0, 3, 0, 1000, 0, 500, 0, 250])

    def test_conductivity_stands_before_temperature(self):
        calls = [lay(2, 0, 2, 1000), WIDE, hang(1, 9000, 1, 2, 3), recipe(0, 1, 1, 2), flow(1000), tick(3)]
        # 500 of B: p 500, q 1000, r 1500, heat 1000000; half of it leaves the chamber.
        self.assertEqual(run(calls)[-1], [0, 2, 0, 0, 0, 1, (19 * 250 + 18 * 500 + 10 * 750) // 1000, 1500])

    def test_20000_ticks(self):
        full = [lay()] + [tick(200)] * 100
        self.assertEqual(last(full), [1, 0, 0, 0, 0, 0])
        self.assertEqual(last(full + [TIME]), [20000, 0, 1])
        for m in (1, 2, 200):
            self.assert_refused(full, tick(m), REFUSED)
        almost = [lay(), heat(0, 0, 0, 2000), flow(3)] + [tick(200)] * 99 + [tick(199)]
        self.assert_refused(almost, tick(2), REFUSED)
        self.assert_refused(almost, tick(200), REFUSED)
        self.assertEqual(run(almost + [tick(2), tick(1), TIME, tick(1)])[-4:],
                         [REFUSED, [1, 0, 0, 0, 0, 0], [20000, 0, 1], REFUSED])

    def test_a_new_line_brings_no_new_ticks(self):
        self.assertEqual(last([lay()] + [tick(200)] * 100 + [lay(), tick()]), REFUSED)


class Fault(CallsTest):
    def test_answer(self):
        for channel in range(4):
            for mode in range(3):
                self.assertEqual(last([lay(), [9, channel, mode, -5]]), [0])

    def test_nothing_changes_at_once(self):
        before = busy()
        for channel in range(4):
            for mode in range(3):
                self.assertEqual(looked(before), looked(before + [[9, channel, mode, -5]]))

    def test_the_newest_holds(self):
        before = [lay(), flow(10), control(1000, 0, 0, 1000000)]
        self.assert_look(before + [stuck(0, 900), off(0, 7), tick()], sum=993)
        self.assert_look(before + [off(0, 7), stuck(0, 900), tick()], sum=100)
        self.assert_look(before + [stuck(0, 900), true(0, 900), tick()], sum=1000)
        self.assert_look(before + [off(0, 7), true(0, 7), tick()], sum=1000)
        self.assert_look(before + [off(0, 7), off(0, 6), tick()], sum=994)


class Hold(CallsTest):
    OPEN = [lay(2, 1, 2), flow(10), WIDE, tick(2)]

    def test_answer(self):
        self.assertEqual(run([lay(), hold(0), hold(1), hold(1), hold(0)])[1:], [[0]] * 4)

    def test_bypass_is_on_at_once(self):
        self.assert_look(self.OPEN, bypass=0, held=0)
        self.assert_look(self.OPEN + [hold(1)], bypass=1, held=1, good=2)

    def test_bypass_stays_on_while_held(self):
        self.assert_look(self.OPEN + [hold(1), tick(9)], bypass=1, held=1, good=2)

    def test_hold_0_leaves_bypass_as_it_is(self):
        self.assert_look(self.OPEN + [hold(0)], bypass=0, held=0)
        self.assert_look(self.OPEN + [hold(1), hold(0)], bypass=1, held=0)
        self.assert_look(self.OPEN + [hold(1), hold(0), tick()], bypass=0, held=0)

    def test_nothing_else_changes(self):
        wanted = looked(busy())
        wanted.update(held=1, bypass=1)
        self.assertEqual(looked(busy() + [hold(1)]), wanted)
        wanted.update(held=0)
        self.assertEqual(looked(busy() + [hold(1), hold(0)]), wanted)


class Check(CallsTest):
    LATCHED = [lay(), flow(10), WIDE, off(1, 9), off(3, 9), tick(2)]

    def test_every_set_of_channels(self):
        for mask in range(16):
            for mode in (1, 2):
                faults = [[9, i, mode, 5] for i in range(4) if mask & (1 << i)]
                self.assertEqual(last([lay()] + faults + [CHECK]), [mask])

    def test_off_by_0_and_stuck_at_the_truth_are_not_true(self):
        self.assertEqual(last([lay(), off(1, 0), stuck(2, 2000), CHECK]), [6])
        self.assertEqual(last([lay(), off(1, 0), true(1, 0), CHECK]), [0])
        self.assertEqual(last([lay(), off(1, 5), true(1, 5), CHECK]), [0])

    def test_latches_go_down_where_all_are_true(self):
        self.assert_look(self.LATCHED, unlike_c=2, unlike_t=2, latch_c=1, latch_t=1)
        self.assert_look(self.LATCHED + [true(1), true(3), CHECK], unlike_c=0, unlike_t=0, latch_c=0, latch_t=0)

    def test_unlike_becomes_0_without_a_latch(self):
        before = [lay(), flow(10), off(1, 9), off(3, 9), tick(), true(1), true(3)]
        self.assert_look(before, unlike_c=1, unlike_t=1, latch_c=0, latch_t=0)
        self.assert_look(before + [CHECK], unlike_c=0, unlike_t=0, latch_c=0, latch_t=0)

    def test_nothing_changes_where_one_is_not(self):
        for faults in ([true(1)], [true(3)], [], [true(1), true(3), stuck(0, 0)], [true(1), true(3), off(2, 0)]):
            self.assert_changes_nothing(self.LATCHED + faults, CHECK)
            self.assert_look(self.LATCHED + faults + [CHECK], unlike_c=2, unlike_t=2, latch_c=1, latch_t=1)

    def test_bypass_and_good_stay(self):
        self.assert_look(self.LATCHED + [true(1), true(3), CHECK], bypass=1, good=1)
        self.assert_look(self.LATCHED + [true(1), true(3), CHECK, tick()], bypass=0, good=1)
        self.assert_look([lay(), flow(10), WIDE, tick(3), CHECK], bypass=0, good=1)
        self.assert_look(busy() + [true(1), true(2), true(3), CHECK], bypass=0, good=4, heater=1, sum=1232, trim=26)


class Look(CallsTest):
    def test_the_beginning(self):
        self.assertEqual(last([lay(), LOOK]), [1] + [0] * 11)

    def test_twelve_numbers_in_order(self):
        before = [
            lay(2, 1, 5), WIDE, recipe(1, 7, 1, 9), flow(10), control(100, 10, 0, 1000), heat(3000, 0, 0, 0),
            apart(100, 100), tick(), off(3, 101), tick(1), stuck(1, 101), tick(1), hold(1),
        ]
        # A gathers 10000, then 3000 + 10010, then 6010 + 10010, and gives a stroke of 7000 twice at the last.
        # B gathers 10, then 11, then 12, and gives a stroke of 9 each time.
        self.assertEqual(last(before + [LOOK]), [1, 3, 1, 0, 1, 1, 2, 1, 2020, 3, 300, 1])

    def test_below_0(self):
        before = [lay(), flow(10), control(0, 10, 0, 1000), stuck(0, 101), tick()]
        self.assertEqual(last(before + [LOOK])[-2:], [-101, -2])

    def test_nothing_changes(self):
        self.assert_changes_nothing(busy(), LOOK)


class Cell(CallsTest):
    def test_seven_numbers(self):
        before = [lay(2, 0, 2), hang(0, 5000, 30, 20, 10), recipe(1, 2, 0, 1), flow(1000), tick()]
        # 500 of A: p 15000, q 10000, r 5000, heat 1000000; half of what is in the chamber leaves it.
        wanted = [1000, 7500, 5000, 2500, 1500000, (19 * 7500 + 18 * 5000 + 25000) // 1000, 1500]
        self.assertEqual(last(before + [cell(0)]), wanted)
        self.assertEqual(last(before + [cell(1)]), LAID_CELL)

    def test_no_such_cell(self):
        for n in (2, 3, 31, 32):
            for i in range(32):
                answer = last([lay(n, 0, n), cell(i)])
                self.assertEqual(answer, LAID_CELL if i < n else REFUSED, (n, i))

    def test_nothing_changes(self):
        self.assert_changes_nothing(busy(), cell(2))
        self.assert_refused(busy(), cell(5), REFUSED)


class Chamber(CallsTest):
    def test_seven_numbers(self):
        before = [lay(2, 0, 2), hang(0, 5000, 30, 20, 10), recipe(1, 2, 0, 1), flow(1000), tick()]
        wanted = [1000, 7500, 5000, 2500, 1500000, (19 * 7500 + 18 * 5000 + 25000) // 1000, 1500]
        self.assertEqual(last(before + [CHAMBER]), wanted)

    def test_nothing_changes(self):
        self.assert_changes_nothing(busy(), CHAMBER)


class Supply(CallsTest):
    def test_the_beginning(self):
        self.assertEqual(run([lay(), supply(0), supply(1)])[1:], [[0, 0, 0, 0]] * 2)

    def test_what_is_left_and_what_is_in_it(self):
        before = [lay(), recipe(1, 10, 1, 5), hang(0, 500, 1, 2, 3), hang(1, 600, 4, 5, 6), flow(100), tick(3)]
        self.assertEqual(run(before + [supply(0), supply(1)])[-2:], [[470, 1, 2, 3], [540, 4, 5, 6]])

    def test_an_empty_one_still_tells_its_strength(self):
        before = [lay(), recipe(1, 10, 1, 5), hang(0, 15, 1, 2, 3), hang(1, 0, 4, 5, 6), flow(100), tick(3)]
        self.assertEqual(run(before + [supply(0), supply(1)])[-2:], [[0, 1, 2, 3], [0, 4, 5, 6]])

    def test_nothing_changes(self):
        self.assert_changes_nothing(busy(), supply(0))
        self.assert_changes_nothing(busy(), supply(1))


class Totals(CallsTest):
    def test_where_it_came_from_and_went(self):
        before = [
            lay(2, 0, 2, 1000), WIDE, hang(1, 9000, 1, 2, 3), recipe(0, 1, 1, 2), flow(1000), tick(3), lay(2, 0, 2, 1000),
        ]
        # Three ticks bring in 500 of B each, p 500, q 1000, r 1500; the third cell that leaves is half of the first.
        self.assertEqual(
            last(before + [TOTALS]),
            [3000 + 3000 + 3000, 1500, 3000, 4500, 6000000 + 3000000 + 6000000]
            + [1000, 250, 500, 750, 1500000]
            + [2000, 0, 0, 0, 4000000]
            + [3000, 1250, 2500, 3750, 3500000],
        )

    def test_power_has_come_in(self):
        before = [lay(2, 0, 2, 1000), heat(3000, 0, 777, 5), flow(10), tick(2), TOTALS]
        self.assertEqual(last(before)[:5], [3020, 0, 0, 0, 6000000 + 50 + 50 + 777])

    def test_nothing_changes(self):
        self.assert_changes_nothing(busy(), TOTALS)


class Would(CallsTest):
    def test_what_tick_then_answers(self):
        for before in (busy(), busy() + [flow(0)], busy() + [hold(1)], busy() + [stuck(2, -5)], [lay()]):
            for m in (1, 2, 50, 200):
                self.assertEqual(last(before + [would(m)]), last(before + [tick(m)]))
                first, second, ticked = run(before + [would(m), would(m), tick(m)])[-3:]
                self.assertEqual(first, second)
                self.assertEqual(first, ticked)

    def test_nothing_changes(self):
        for before in (busy(), busy() + [off(1, 90), stuck(3, 7)], [lay()]):
            for m in (1, 2, 200):
                self.assert_changes_nothing(before, would(m))

    def test_all_that_a_tick_goes_by_is_taken_over(self):
        # What was gathered, the sum and with it the trim, the heater and a single unlike reading decide what comes.
        before = [
            lay(2, 0, 2, 1000), WIDE, hang(0, 10000000, 10000, 0, 0), recipe(1, 3000, 1, 3000), flow(2000),
            hang(1, 10000000, 0, 0, 10000), control(1000, 0, 1000, 250), heat(1900, 300, 10000000, 2000),
            apart(0, 0), stuck(0, 900), stuck(1, 900), stuck(2, 100), tick(), stuck(3, 100), tick(2), stuck(2, 2000),
        ]
        found = looked(before)
        self.assertEqual((found["sum"], found["trim"], found["heater"]), (250, 250, 1))
        for more in ([stuck(0, 1001)], [stuck(3, 2000)], [stuck(0, 1001), stuck(1, 1001), stuck(3, 2000), tick()]):
            for m in (1, 2, 3, 9):
                would_answer, tick_answer = run(before + more + [would(m), tick(m)])[-2:]
                self.assertEqual(would_answer, tick_answer)
                self.assert_changes_nothing(before + more, would(m))
        # With the sum left out, the trim would be 0 at once, and so much less of A would come.
        led = last(before + [stuck(0, 1001), stuck(1, 1001), stuck(3, 2000), would(9)])
        self.assertEqual(led[5], 9)

    def test_whatever_the_ticks_so_far(self):
        almost = [lay(2, 1, 2), WIDE, flow(9)] + [tick(200)] * 99 + [tick(180)]
        self.assertEqual(last(almost + [would(20)]), last(almost + [tick(20)]))
        self.assertEqual(last(almost + [tick(21)]), REFUSED)
        more = last(almost + [would(21)])
        self.assertEqual(more[:6], [0, 2, 0, 0, 0, 21])
        self.assertEqual(len(more), 6 + 42)
        full = almost + [tick(20)]
        self.assertEqual(last(full + [would(200)])[:6], [0, 2, 0, 0, 0, 200])
        self.assert_changes_nothing(full, would(200))


class Time(CallsTest):
    def test_three_numbers(self):
        calls = [lay(), hang(0, 1, 1, 1, 1), lay(), hang(1, 1, 1, 1, 1), hang(1, 1, 1, 1, 1), tick(5), lay(), lay()]
        self.assertEqual(last(calls + [TIME]), [5, 3, 4])

    def test_ticks_count_with_flow_or_without(self):
        self.assertEqual(last([lay(), tick(5), flow(3), tick(7), flow(0), tick(11), TIME]), [23, 0, 1])

    def test_what_was_refused_does_not_count(self):
        calls = [lay(), lay(1, 1, 1, 1), hang(0, -1, 0, 0, 0), tick(201), tick(0), [8], would(9), TIME]
        self.assertEqual(last(calls), [0, 0, 1])

    def test_nothing_changes(self):
        self.assert_changes_nothing(busy(), TIME)


if __name__ == "__main__":
    unittest.main()

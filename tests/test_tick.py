"""The steps of a tick, 1 to 11, and the flow 0. Where a test is about the guard, stuck channels feed it."""

import unittest

from tests.support import (
    CHAMBER, LOOK, TOTALS, WIDE, CallsTest, apart, busy, cell, control, flow, hang, heat, hold, last, lay, looked,
    off, recipe, run, stuck, supply, tick, true, window, would,
)

FULL = [hang(0, 10000000, 1, 0, 0), hang(1, 10000000, 0, 1, 0)]


def drawn(calls):
    """How much the last of the calls drew from A and from B."""
    before = run(list(calls[:-1]) + [supply(0), supply(1)])[-2:]
    after = run(list(calls) + [supply(0), supply(1)])[-2:]
    return before[0][0] - after[0][0], before[1][0] - after[1][0]


class Step1Strokes(CallsTest):
    def test_both_gather_and_give_strokes(self):
        before = [lay()] + FULL + [recipe(1, 4, 1, 3), flow(10)]
        # A: 10000 gathered, 2 strokes of 4000. B: 10 gathered, 3 strokes of 3.
        self.assertEqual(drawn(before + [tick()]), (2, 3))
        self.assert_look(before + [tick()], gathered_a=2000, gathered_b=1)
        # A: 12000, 3 strokes. B: 11, 3 strokes.
        self.assertEqual(drawn(before + [tick(), tick()]), (3, 3))
        self.assert_look(before + [tick(2)], gathered_a=0, gathered_b=2)
        # B: 12, 4 strokes.
        self.assertEqual(drawn(before + [tick(2), tick()]), (2, 4))
        self.assert_look(before + [tick(3)], gathered_a=2000, gathered_b=0)

    def test_nothing_is_drawn_before_a_stroke_is_gathered(self):
        before = [lay()] + FULL + [recipe(1, 1000000, 1, 1000000), flow(5000)]
        self.assertEqual(drawn(before + [tick(199)]), (0, 0))
        self.assert_look(before + [tick(199)], gathered_a=995000000, gathered_b=995000)
        self.assertEqual(drawn(before + [tick(199), tick()]), (1, 1))
        self.assert_look(before + [tick(200)], gathered_a=0, gathered_b=0)

    def test_trim_is_that_of_the_tick_before(self):
        for reading, trim in ((0, 300), (2000, -300), (900, 100), (1100, -100)):
            before = [lay()] + FULL + [recipe(1, 4, 0, 1), flow(1000), control(1000, 1000, 0, 0), stuck(0, reading)]
            self.assertEqual(drawn(before + [tick()]), (250, 0))
            self.assert_look(before + [tick()], trim=trim, gathered_a=0)
            wanted = 250 + 250 * trim // 1000
            self.assertEqual(drawn(before + [tick(), tick()]), (wanted, 0))
            self.assert_look(before + [tick(2)], gathered_a=1000 * (1000 + trim) - wanted * 4000)

    def test_trim_changes_a_alone(self):
        before = [lay()] + FULL + [recipe(0, 1, 1, 4), flow(1000), control(1000, 1000, 0, 0), stuck(0, 0), tick()]
        self.assert_look(before, trim=300)
        self.assertEqual(drawn(before + [tick()]), (0, 250))

    def test_all_of_the_flow_may_be_a(self):
        before = [lay()] + FULL + [recipe(10, 13, 0, 1), flow(13), control(1000, 1000, 0, 0), stuck(0, 0), tick()]
        self.assertEqual(drawn(before), (10, 0))
        self.assertEqual(drawn(before + [tick()]), (13, 0))
        self.assert_look(before + [tick()], gathered_a=0)
        self.assertEqual(last(before + [tick(), cell(0)])[0], 13)

    def test_all_of_the_flow_may_be_b(self):
        before = [lay()] + FULL + [recipe(0, 1, 1, 1), flow(13)]
        self.assertEqual(drawn(before + [tick()]), (0, 13))
        self.assert_look(before + [tick()], gathered_b=0)

    def test_b_is_at_most_what_a_leaves_of_the_flow(self):
        # With trim 300, A gathers 6500 a tick towards strokes of 10000, B 7 a tick towards strokes of 20.
        before = [lay()] + FULL + [
            control(1000, 1000, 0, 0), stuck(0, 0), recipe(0, 1, 0, 1), flow(1), tick(), recipe(5, 10, 7, 20),
        ]
        steps = []
        for i in range(1, 21):
            answer = looked(before + [tick(i)])
            steps.append((drawn(before + [tick()] * i), answer["gathered_a"], answer["gathered_b"]))
        self.assertEqual(steps[:7], [
            ((0, 0), 6500, 7), ((1, 0), 3000, 14), ((0, 1), 9500, 1), ((1, 0), 6000, 8), ((1, 0), 2500, 15),
            ((0, 1), 9000, 2), ((1, 0), 5500, 9),
        ])
        self.assertEqual(steps[7:12], [
            ((1, 0), 2000, 16), ((0, 1), 8500, 3), ((1, 0), 5000, 10), ((1, 0), 1500, 17), ((0, 1), 8000, 4),
        ])
        # In the twentieth both have gathered a stroke, but the flow is 1: B keeps its own for the next tick.
        self.assertEqual(steps[19], ((1, 0), 0, 20))

    def test_a_stroke_that_b_could_not_give_comes_later(self):
        before = [lay()] + FULL + [
            control(1000, 1000, 0, 0), stuck(0, 0), recipe(0, 1, 0, 1), flow(1), tick(), recipe(5, 10, 7, 20), tick(20),
        ]
        self.assert_look(before, gathered_a=0, gathered_b=20)
        self.assertEqual(drawn(before + [tick()]), (0, 1))
        self.assert_look(before + [tick()], gathered_a=6500, gathered_b=7)


class Step2RunningDry(CallsTest):
    BEFORE = [lay(2, 0, 2, 1000), recipe(1, 4, 1, 5), flow(100)]

    def test_what_is_left_is_drawn_instead(self):
        before = self.BEFORE + [hang(0, 30, 10, 20, 30), hang(1, 33, 40, 50, 60), tick(), tick()]
        self.assertEqual(drawn(before[:-1]), (25, 20))
        self.assertEqual(drawn(before), (5, 13))
        self.assertEqual(drawn(before + [tick()]), (0, 0))
        self.assertEqual(run(before + [supply(0), supply(1)])[-2:], [[0, 10, 20, 30], [0, 40, 50, 60]])

    def test_just_enough(self):
        before = self.BEFORE + [hang(0, 25, 1, 0, 0), hang(1, 20, 1, 0, 0), tick()]
        self.assertEqual(drawn(before), (25, 20))

    def test_water_comes_in_the_place_of_what_is_missing(self):
        before = self.BEFORE + [heat(0, 0, 0, 1000), hang(0, 5, 10, 20, 30), hang(1, 13, 40, 50, 60), tick()]
        self.assertEqual(
            last(before + [TOTALS])[:5],
            [3100, 5 * 10 + 13 * 40, 5 * 20 + 13 * 50, 5 * 30 + 13 * 60, 6000000 + 82 * 1000 + 18 * 2000],
        )

    def test_what_was_gathered_stays_as_after_step_1(self):
        self.assert_look(self.BEFORE + [recipe(3, 7, 2, 9), tick()], gathered_a=6000, gathered_b=2)
        full = self.BEFORE + FULL + [recipe(3, 7, 2, 9), tick(5)]
        dry = self.BEFORE + [hang(0, 50, 1, 0, 0), hang(1, 30, 1, 0, 0), recipe(3, 7, 2, 9), tick(5)]
        self.assertEqual(looked(full)["gathered_a"], looked(dry)["gathered_a"])
        self.assertEqual(looked(full)["gathered_b"], looked(dry)["gathered_b"])

    def test_one_alone_runs_dry(self):
        self.assertEqual(drawn(self.BEFORE + [hang(0, 7, 1, 0, 0), hang(1, 90, 1, 0, 0), tick()]), (7, 20))
        self.assertEqual(drawn(self.BEFORE + [hang(0, 90, 1, 0, 0), hang(1, 7, 1, 0, 0), tick()]), (25, 7))

    def test_b_gets_no_more_where_a_runs_dry(self):
        # A takes the whole flow in step 1; that it is empty does not give B its stroke.
        before = [
            lay(), hang(1, 100, 0, 1, 0), control(1000, 1000, 0, 0), stuck(0, 0), recipe(0, 1, 0, 1), flow(1), tick(),
            recipe(5, 10, 7, 20), tick(19), tick(),
        ]
        self.assertEqual(drawn(before), (0, 0))
        self.assert_look(before, gathered_a=0, gathered_b=20)


class Step3ComingIn(CallsTest):
    def test_water_a_and_b(self):
        before = [
            lay(2, 0, 2, 1000), recipe(1, 5, 1, 10), hang(0, 100, 1, 2, 3), hang(1, 100, 4, 5, 6),
            heat(0, 0, 0, 3000), flow(10), tick(),
        ]
        # 7 of water of 3000; 2 of A: 2, 4, 6; 1 of B: 4, 5, 6; both of 2000.
        self.assertEqual(last(before + [TOTALS])[:5], [3010, 6, 9, 12, 6000000 + 21000 + 6000])
        # All of 1010 less the portion 10: of p, q, r nothing, of heat 2027000 * 10 / 1010 = 20069.3.
        self.assertEqual(last(before + [cell(0)]), [10, 0, 0, 0, 20069, 0, 2006])
        self.assertEqual(last(before + [CHAMBER]), [1000, 6, 9, 12, 2006931, (114 + 162 + 120) // 1000, 2006])

    def test_power_comes_in_while_the_heater_is_on(self):
        before = [lay(2, 0, 2, 1000), heat(2500, 0, 500000, 2000), flow(1000)]
        # The heater goes on at the end of the first tick.
        self.assertEqual(last(before + [tick(), TOTALS])[:5], [4000, 0, 0, 0, 8000000])
        self.assertEqual(last(before + [tick(2), TOTALS])[:5], [5000, 0, 0, 0, 10500000])
        self.assertEqual(last(before + [tick(2), cell(0)]), [1000, 0, 0, 0, 2250000, 0, 2250])
        self.assertEqual(last(before + [tick(2), CHAMBER]), [1000, 0, 0, 0, 2250000, 0, 2250])

    def test_no_power_once_it_is_off(self):
        before = [lay(2, 0, 2, 1000), heat(2100, 0, 1000000, 2000), flow(1000), tick(2)]
        # The second tick brings 2500, above 2100: the heater is off for the third.
        self.assert_look(before[:-1] + [tick()], heater=1)
        self.assert_look(before, heater=0)
        old = last(before + [TOTALS])
        self.assertEqual(last(before + [tick(), TOTALS])[4] - old[4], 2000000)


class Step4Portion(CallsTest):
    def test_every_number_is_rounded_down_by_itself(self):
        before = [
            lay(2, 0, 2, 1000), recipe(1, 2, 0, 1), hang(0, 1000, 7, 11, 13), heat(0, 0, 0, 777), flow(998), tick(),
        ]
        # 499 of A: p 3493, q 5489, r 6487; the chamber holds 1998, of heat 2000000 + 499 * 777 + 499 * 2000.
        chamber = [1998, 3493, 5489, 6487, 2000000 + 499 * 777 + 499 * 2000]
        part = [998, 1744, 2741, 3240, 1691166]
        for i in range(5):
            self.assertEqual(part[i], chamber[i] * 998 // 1998)
        self.assertEqual(last(before + [cell(0)])[:5], part)
        self.assertEqual(last(before + [CHAMBER])[:5], [chamber[i] - part[i] for i in range(5)])

    def test_a_small_and_a_large_flow(self):
        self.assertEqual(last([lay(2, 0, 2, 1000), flow(1), tick(), cell(0)]), [1, 0, 0, 0, 1998, 0, 1998])
        self.assertEqual(last([lay(2, 0, 2, 1000), flow(5000), tick(), cell(0)]), [5000, 0, 0, 0, 1666666, 0, 333])
        self.assertEqual(last([lay(2, 0, 2, 1000), flow(5000), tick(), CHAMBER]), [1000, 0, 0, 0, 333334, 0, 333])

    def test_conductivity_weighs_p_q_and_r(self):
        for strength, weight in (((1000, 0, 0), 19), ((0, 1000, 0), 18), ((0, 0, 1000), 10)):
            p, q, r = strength
            before = [lay(2, 0, 2, 1000), recipe(0, 1, 1, 1), hang(1, 9000, p, q, r), flow(1000), tick(), cell(0)]
            self.assertEqual(last(before)[5], 500 * weight)

    def test_conductivity_and_temperature_are_rounded_down(self):
        before = [lay(2, 0, 2, 1000), recipe(0, 1, 1, 1), hang(1, 9000, 1, 1, 1), flow(1000), tick(2)]
        # In the chamber 1000, then 500 + 1000, the half of it leaves: 750 of each.
        self.assertEqual(last(before + [cell(0)]), [1000, 750, 750, 750, 2000000, 35, 2000])
        self.assertEqual(47 * 750 // 1000, 35)
        cold = [lay(2, 0, 2, 1000), flow(999), tick(), cell(0)]
        self.assertEqual(last(cold), [999, 0, 0, 0, 999499, 0, 1000])


class Step5Line(CallsTest):
    def test_cells_go_on_by_one(self):
        before = [lay(4, 0, 4)]
        for f in (1, 2, 3, 4, 5, 6):
            before += [flow(f), tick()]
        self.assertEqual([x[0] for x in run(before + [cell(i) for i in range(4)])[-4:]], [6, 5, 4, 3])

    def test_bypass_on_drains(self):
        before = [lay(2, 0, 2), flow(10), tick(3), TOTALS]
        found = last(before)
        self.assertEqual(found[5:10], [0] * 5)
        self.assertEqual(found[10:15], [2010, 0, 0, 0, 4000000 + 19801])

    def test_bypass_off_leads_to_the_dialyser(self):
        before = [lay(2, 1, 1), WIDE, flow(10), tick(), TOTALS]
        self.assertEqual(last(before)[5:15], [0] * 5 + [1000, 0, 0, 0, 2000000])
        before = [lay(2, 1, 1), WIDE, flow(10), tick(3), TOTALS]
        self.assertEqual(last(before)[5:15], [1010, 0, 0, 0, 2019801] + [1000, 0, 0, 0, 2000000])

    def test_the_valve_is_as_it_was_before_the_reading(self):
        # It goes off in the first tick's step 9, but that tick's cell has left; so when it goes on again.
        before = [lay(2, 1, 1), WIDE, flow(10), apart(1, 0)]
        self.assertEqual(last(before + [tick()]), [0, 1, 0, 0, 0, 0])
        self.assertEqual(last(before + [tick(), tick()]), [0, 1, 0, 0, 0, 1, 0, 2000])
        self.assertEqual(last(before + [tick(), stuck(0, -1), tick()]), [1, 0, 0, 0, 0, 1, 0, 2000])
        self.assertEqual(last(before + [tick(), stuck(0, -1), tick(), tick()]), [1, 0, 0, 0, 0, 0])


class Step6Readings(CallsTest):
    GOOD = [stuck(0, 150), stuck(1, 150), stuck(2, 2500), stuck(3, 2500)]
    BEFORE = [lay(2, 1, 9), flow(10), window(100, 200, 2000, 3000), apart(1000000, 10000)] + GOOD

    def test_limits_of_each_channel(self):
        for channel, low, high in ((0, 100, 200), (1, 100, 200), (2, 2000, 3000), (3, 2000, 3000)):
            for reading, good in ((low - 1, 0), (low, 1), (high, 1), (high + 1, 0), (-5, 0), (-1000000, 0)):
                self.assert_look(self.BEFORE + [stuck(channel, reading), tick()], good=good)

    def test_the_sensors_are_at_c_once_the_cells_went_on(self):
        # The first fluid with B in it is in cell 0 after one tick, and in cell c after c + 1.
        for c in range(6):
            before = [
                lay(6, c, 6), recipe(0, 1, 1, 1), hang(1, 100000, 100, 0, 0), flow(1000), window(1, 1000000, 0, 10000),
            ]
            self.assert_look(before + [tick(c)], good=0)
            self.assert_look(before + [tick(c + 1)], good=1)

    def test_true_reads_what_is_there(self):
        # After the first tick cell 0 has conductivity 950 and temperature 1500.
        before = [lay(2, 0, 2), recipe(0, 1, 1, 2), hang(1, 9000, 200, 0, 0), flow(1000)]
        self.assertEqual(last(before + [tick(), cell(0)])[5:], [950, 1500])
        self.assert_look(before + [window(950, 950, 1500, 1500), tick()], good=1)
        self.assert_look(before + [window(951, 951, 1500, 1500), tick()], good=0)
        self.assert_look(before + [window(950, 950, 1501, 1501), tick()], good=0)
        for channel in range(4):
            self.assert_look(before + [window(950, 950, 1500, 1500), true(channel, 7), tick()], good=1)

    def test_off_reads_what_is_there_plus_v(self):
        before = [lay(2, 0, 2), recipe(0, 1, 1, 2), hang(1, 9000, 200, 0, 0), flow(1000)]
        for channel, there in ((0, 950), (1, 950), (2, 1500), (3, 1500)):
            for v in (-there, -3, 0, 3, 400):
                if channel < 2:
                    low, high = min(950, 950 + v), max(950, 950 + v)
                    exact, tight = window(low, high, 0, 10000), window(low + (v < 0), high - (v > 0), 0, 10000)
                else:
                    low, high = min(1500, 1500 + v), max(1500, 1500 + v)
                    exact, tight = window(0, 1000000, low, high), window(0, 1000000, low + (v < 0), high - (v > 0))
                self.assert_look(before + [off(channel, v), exact, tick()], good=1)
                self.assert_look(before + [off(channel, v), tight, tick()], good=1 if v == 0 else 0)

    def test_off_may_read_below_0(self):
        before = [lay(2, 0, 2), flow(1000), WIDE]
        for channel in range(4):
            self.assert_look(before + [off(channel, -1000000), tick()], good=0)
        self.assert_look(before + [control(5, 0, 0, 1000000000), off(0, -1000000), tick()], sum=1000005)

    def test_each_channel_has_its_own_fault(self):
        for channel in range(4):
            before = self.BEFORE + [stuck(channel, 5000), tick()]
            self.assert_look(before, good=0)
            self.assert_look(before + [stuck(channel, (150, 150, 2500, 2500)[channel]), tick()], good=1)


class Step7Unlike(CallsTest):
    BEFORE = [lay(2, 1, 2), flow(10), WIDE, stuck(0, 100), stuck(1, 100), stuck(2, 900), stuck(3, 900), apart(5, 7)]

    def test_conductivity(self):
        for one, other, unlike in ((100, 105, 0), (105, 100, 0), (100, 106, 1), (106, 100, 1), (-3, 2, 0), (-3, 3, 1)):
            before = self.BEFORE + [stuck(0, one), stuck(1, other), tick()]
            self.assert_look(before, unlike_c=unlike, unlike_t=0)

    def test_temperature(self):
        for one, other, unlike in ((100, 107, 0), (107, 100, 0), (100, 108, 1), (108, 100, 1), (-3, 4, 0), (-3, 5, 1)):
            before = self.BEFORE + [stuck(2, one), stuck(3, other), tick()]
            self.assert_look(before, unlike_c=0, unlike_t=unlike)

    def test_twice_in_a_row_puts_the_latch_up(self):
        for channel, name in ((0, "c"), (1, "c"), (2, "t"), (3, "t")):
            apart_now = self.BEFORE + [stuck(channel, 5000)]
            other = "t" if name == "c" else "c"
            for ticks, unlike, latch in ((1, 1, 0), (2, 2, 1), (3, 2, 1), (9, 2, 1)):
                self.assert_look(apart_now + [tick(ticks)], **{
                    "unlike_" + name: unlike, "latch_" + name: latch, "unlike_" + other: 0, "latch_" + other: 0,
                })

    def test_once_and_again_does_not(self):
        apart_now = [stuck(0, 5000), stuck(2, 5000), tick()]
        alike = [stuck(0, 100), stuck(2, 900), tick()]
        self.assert_look(self.BEFORE + apart_now + alike, unlike_c=0, unlike_t=0)
        self.assert_look(self.BEFORE + (apart_now + alike) * 4 + apart_now,
                         unlike_c=1, unlike_t=1, latch_c=0, latch_t=0)

    def test_a_latch_stays_up(self):
        before = self.BEFORE + [stuck(0, 5000), stuck(2, 5000), tick(2), stuck(0, 100), stuck(2, 900), tick(5)]
        self.assert_look(before, unlike_c=0, unlike_t=0, latch_c=1, latch_t=1, good=2, bypass=1)


class Step8Good(CallsTest):
    def test_up_to_k(self):
        before = [lay(2, 1, 4), flow(10), WIDE]
        for ticks, good in ((1, 1), (2, 2), (3, 3), (4, 4), (5, 4), (90, 4)):
            self.assert_look(before + [tick(ticks)], good=good)

    def test_up_to_1000(self):
        before = [lay(2, 1, 1000), flow(10), WIDE] + [tick(200)] * 4
        self.assert_look(before + [tick(199)], good=999, bypass=1)
        self.assert_look(before + [tick(200)], good=1000, bypass=0)
        self.assert_look(before + [tick(200), tick(9)], good=1000, bypass=0)

    def test_back_to_0(self):
        before = [lay(2, 1, 4), flow(10), WIDE, tick(3), stuck(3, 10001), tick()]
        self.assert_look(before, good=0)
        self.assert_look(before + [true(3), tick()], good=1)

    def test_it_grows_while_a_latch_is_up_or_the_guard_is_held(self):
        self.assert_look([lay(2, 1, 4), flow(10), WIDE, off(1, 5), tick(3)], good=3, latch_c=1)
        self.assert_look([lay(2, 1, 4), flow(10), WIDE, hold(1), tick(3)], good=3)


class Step9Valve(CallsTest):
    BEFORE = [lay(2, 1, 3), flow(10), WIDE]

    def test_off_once_good_is_k(self):
        self.assert_look(self.BEFORE + [tick(2)], bypass=1)
        self.assert_look(self.BEFORE + [tick(3)], bypass=0)
        self.assert_look(self.BEFORE + [tick(20)], bypass=0)

    def test_on_where_the_reading_is_not_good(self):
        for channel in range(4):
            self.assert_look(self.BEFORE + [tick(3), apart(1000000, 10000), stuck(channel, -1), tick()], bypass=1)
            self.assert_look(self.BEFORE + [tick(3), apart(1000000, 10000), stuck(channel, -1), tick(), true(channel),
                                            tick(2)], bypass=1)
            self.assert_look(self.BEFORE + [tick(3), apart(1000000, 10000), stuck(channel, -1), tick(), true(channel),
                                            tick(3)], bypass=0)

    def test_on_where_a_latch_is_up(self):
        for channel in range(4):
            before = self.BEFORE + [tick(3), off(channel, 5)]
            self.assert_look(before + [tick()], bypass=0, good=3)
            self.assert_look(before + [tick(2)], bypass=1, good=3)
            self.assert_look(before + [tick(2), true(channel), tick(9)], bypass=1, good=3)

    def test_on_while_held(self):
        self.assert_look(self.BEFORE + [hold(1), tick(9)], bypass=1, good=3)
        self.assert_look(self.BEFORE + [hold(1), tick(9), hold(0)], bypass=1, good=3)
        self.assert_look(self.BEFORE + [hold(1), tick(9), hold(0), tick()], bypass=0, good=3)


class Step10Controller(CallsTest):
    @staticmethod
    def after(reading, told, ticks=1):
        found = looked([lay(), flow(10), told, stuck(0, reading), tick(ticks)])
        return found["sum"], found["trim"]

    def test_e_is_the_target_less_channel_0(self):
        self.assertEqual(self.after(70, control(100, 1000, 0, 1000)), (30, 30))
        self.assertEqual(self.after(130, control(100, 1000, 0, 1000)), (-30, -30))
        self.assertEqual(self.after(-130, control(100, 1000, 0, 1000)), (230, 230))

    def test_only_channel_0_counts(self):
        before = [lay(), flow(10), control(100, 1000, 0, 1000), stuck(1, 1), stuck(2, 2), stuck(3, 3), tick()]
        self.assert_look(before, sum=100, trim=100)

    def test_sum_grows_up_to_im(self):
        for ticks, wanted in ((1, 30), (2, 60), (3, 90), (4, 100), (9, 100)):
            self.assertEqual(self.after(70, control(100, 0, 1000, 100), ticks), (wanted, wanted))
            self.assertEqual(self.after(130, control(100, 0, 1000, 100), ticks), (-wanted, -wanted))

    def test_sum_comes_back_from_its_end(self):
        before = [lay(), flow(10), control(100, 0, 0, 100), stuck(0, 70), tick(9), stuck(0, 101), tick(3)]
        self.assert_look(before, sum=97)

    def test_im_0(self):
        self.assertEqual(self.after(70, control(100, 0, 1000, 0), 5), (0, 0))
        self.assertEqual(self.after(130, control(100, 0, 1000, 0), 5), (0, 0))

    def test_both_parts_are_added_before_the_rounding(self):
        self.assertEqual(self.after(99, control(100, 500, 500, 10)), (1, 1))
        self.assertEqual(self.after(99, control(100, 499, 500, 10)), (1, 0))
        self.assertEqual(self.after(90, control(100, 30, 70, 5), 3), (5, 0))
        self.assertEqual(self.after(90, control(100, 65, 70, 5), 3), (5, 1))

    def test_the_new_sum_is_taken(self):
        self.assertEqual(self.after(90, control(100, 0, 100, 1000)), (10, 1))
        self.assertEqual(self.after(90, control(100, 0, 100, 1000), 2), (20, 2))
        self.assertEqual(self.after(0, control(1000, 0, 1000, 7)), (7, 7))

    def test_rounded_towards_lesser_numbers(self):
        for kp, trim in ((1, -1), (999, -1), (1000, -1)):
            self.assertEqual(self.after(101, control(100, kp, 0, 0)), (0, trim))
        self.assertEqual(self.after(103, control(100, 334, 0, 0)), (0, -2))
        self.assertEqual(self.after(97, control(100, 999, 0, 0)), (0, 2))
        self.assertEqual(self.after(101, control(100, 0, 1, 10), 3), (-3, -1))

    def test_from_minus_300_to_300(self):
        for e, trim in ((299, 299), (300, 300), (301, 300), (100000, 300)):
            self.assertEqual(self.after(1000 - e, control(1000, 1000, 0, 0)), (0, trim))
            self.assertEqual(self.after(1000 + e, control(1000, 1000, 0, 0)), (0, -trim))

    def test_the_largest_numbers(self):
        # 4000 ticks with e 2000000 would reach 8000000000.
        before = [lay(), flow(10), control(1000000, 1000, 1000, 1000000000), stuck(0, -1000000)]
        self.assert_look(before + [tick(200)], sum=400000000, trim=300)
        self.assert_look(before + [tick(200)] * 2 + [tick(99)], sum=998000000, trim=300)
        self.assert_look(before + [tick(200)] * 3, sum=1000000000, trim=300)
        below = [lay(), flow(10), control(0, 1000, 1000, 1000000000), stuck(0, 1000000)]
        self.assert_look(below + [tick(200)] * 6, sum=-1000000000, trim=-300)

    def test_it_works_while_the_fluid_is_passed_by(self):
        before = [lay(), flow(10), control(100, 1000, 0, 1000), hold(1), off(1, 5), off(3, 5), stuck(0, 7), tick(3)]
        self.assert_look(before, bypass=1, latch_c=1, latch_t=1, sum=279, trim=93)


class Step11Heater(CallsTest):
    OFF = [lay(), flow(10), heat(3000, 50, 0, 0)]
    ON = OFF + [stuck(2, 0), tick()]

    def test_below_the_band_it_goes_on(self):
        for reading, heater in ((-7, 1), (2949, 1), (2950, 0), (2951, 0), (3000, 0), (3050, 0), (3051, 0)):
            self.assert_look(self.OFF + [stuck(2, reading), tick()], heater=heater)

    def test_above_the_band_it_goes_off(self):
        self.assert_look(self.ON, heater=1)
        for reading, heater in ((2949, 1), (2950, 1), (3000, 1), (3049, 1), (3050, 1), (3051, 0), (1000000, 0)):
            self.assert_look(self.ON + [stuck(2, reading), tick()], heater=heater)

    def test_without_a_band(self):
        before = [lay(), flow(10), heat(3000, 0, 0, 0)]
        for first, second, heater in ((2999, 3000, 1), (3001, 3000, 0), (2999, 3001, 0), (3001, 2999, 1)):
            self.assert_look(before + [stuck(2, first), tick(), stuck(2, second), tick()], heater=heater)

    def test_a_band_that_reaches_below_0(self):
        before = [lay(), flow(10), heat(10, 50, 0, 0)]
        self.assert_look(before + [stuck(2, -40), tick()], heater=0)
        self.assert_look(before + [stuck(2, -41), tick()], heater=1)

    def test_only_channel_2_counts(self):
        self.assert_look(self.OFF + [stuck(2, 3000), stuck(3, 0), stuck(0, 0), stuck(1, 0), tick()], heater=0)
        self.assert_look(self.ON + [stuck(2, 3000), stuck(3, 9000), stuck(0, 9000), stuck(1, 9000), tick()], heater=1)

    def test_nothing_told(self):
        # set and band are 0: any temperature above 0 is above the band, one below 0 is below it.
        self.assert_look([lay(), flow(10), tick()], heater=0)
        self.assert_look([lay(), flow(10), stuck(2, -1), tick()], heater=1)


class FlowNone(CallsTest):
    def test_nothing_happens(self):
        faults = [stuck(0, 5000), off(1, -3), stuck(2, -5), off(3, 50)]
        for before in (busy(), busy() + faults, busy() + [hold(1)], [lay(), WIDE], [lay()]):
            shown = [LOOK, CHAMBER, TOTALS, supply(0), supply(1)] + [cell(i) for i in range(5)]
            for m in (1, 200):
                self.assertEqual(run(before + [flow(0)] + shown)[-len(shown):],
                                 run(before + [flow(0), tick(m)] + shown)[-len(shown):])

    def test_the_answer_tells_what_is(self):
        self.assertEqual(last(busy() + [flow(0), tick(9)]), [0, 4, 0, 0, 0, 0])
        self.assertEqual(last(busy() + [flow(0), would(9)]), [0, 4, 0, 0, 0, 0])
        self.assertEqual(last([lay(), hold(1), tick(9)]), [1, 0, 1, 0, 0, 0])

    def test_flow_is_0_at_the_beginning(self):
        self.assertEqual(run([lay(), WIDE, tick(9), cell(0), TOTALS])[2:], [
            [1, 0, 0, 0, 0, 0], [1000, 0, 0, 0, 2000000, 0, 2000], [3000, 0, 0, 0, 6000000] + [0] * 15,
        ])


class Beginning(CallsTest):
    def test_what_is_told_is_0(self):
        # No recipe, no window, no controller, inlet 0; the channels may not be apart at all.
        before = [lay(2, 0, 2)] + FULL + [flow(1000), tick()]
        self.assertEqual(last(before + [LOOK]), [1] + [0] * 11)
        self.assertEqual(last(before + [cell(0)]), [1000, 0, 0, 0, 1000000, 0, 1000])
        self.assertEqual(drawn(before), (0, 0))
        self.assert_look([lay(), flow(1), off(1, 1), off(3, -1), tick()], unlike_c=1, unlike_t=1)
        self.assert_look([lay(), flow(1), stuck(0, 0), stuck(1, 0), stuck(2, 0), stuck(3, 0), tick()], good=1, bypass=0)
        self.assert_look([lay(), flow(1), stuck(0, 1), stuck(1, 0), stuck(2, 0), stuck(3, 0), tick()], good=0)
        self.assert_look([lay(), flow(1), stuck(0, 0), stuck(1, 0), stuck(2, 0), stuck(3, 1), tick()], good=0)

    def test_the_limits_are_0(self):
        none = [lay(), flow(1), stuck(0, 0), stuck(1, 0), stuck(2, 0), stuck(3, 0)]
        for channel in range(4):
            for reading in (-1, 1):
                self.assert_look(none + [stuck(channel, reading), tick()], good=0)

    def test_the_controller_does_nothing(self):
        for reading in (-1000000, -1, 0, 1, 5000, 1000000):
            self.assert_look([lay(), flow(1), stuck(0, reading), tick(3)], sum=0, trim=0)

    def test_the_heater_has_no_set_no_band_and_no_power(self):
        before = [lay(), flow(1)]
        self.assert_look(before + [stuck(2, 0), tick()], heater=0)
        self.assert_look(before + [stuck(2, -1), tick(), stuck(2, 0), tick()], heater=1)
        self.assert_look(before + [stuck(2, -1), tick(), stuck(2, 1), tick()], heater=0)
        self.assertEqual(last(before + [stuck(2, -1), tick(9), TOTALS])[:5], [3009, 0, 0, 0, 6000000])


if __name__ == "__main__":
    unittest.main()

"""Promises 22 to 27: press, centre, leak, wait, vent, check."""

from bloodmachine.device import Device
from helper import (
    BAG, CENTRE, CHECK, FAULT, GREATEST, GUARD, HEM, JOIN, LAY, LEAK, LEAST, LEAVE, PRESS, PRIME, RESET, RUN, TEST,
    TOTALS, VENT, WAIT, MachineTest, answered, begun_device, call, device_in, joined_device, last_answered, state,
)


def uncentred_device():
    """Joined, without pressures and without a centre."""
    device = begun_device()
    assert call(device, JOIN) == [0]
    return device


def centred_device(a, v):
    device = uncentred_device()
    assert call(device, PRESS, a, v) == [0]
    assert call(device, CENTRE) == [0]
    return device


class PressTest(MachineTest):
    def pressed(self, device, a, v, latches):
        before = state(device)
        self.assertEqual(call(device, PRESS, a, v), [latches])
        self.changed(device, before, {"guard.pressures": [a, v], "guard.latches": latches})

    def test_the_arterys_pressure_without_a_centre(self):
        for a, latches in ((-1000, 8), (-301, 8), (-300, 0), (0, 0), (100, 0), (101, 8), (1000, 8)):
            self.pressed(uncentred_device(), a, 100, latches)

    def test_the_veins_pressure_without_a_centre(self):
        for v, latches in ((-1000, 16), (0, 16), (9, 16), (10, 0), (400, 0), (401, 16), (1000, 16)):
            self.pressed(uncentred_device(), 0, v, latches)

    def test_the_arterys_pressure_away_from_the_centre(self):
        for a, latches in ((-161, 8), (-160, 0), (-100, 0), (-40, 0), (-39, 8), (-300, 8), (100, 8), (-301, 8)):
            self.pressed(centred_device(-100, 200), a, 200, latches)

    def test_the_veins_pressure_away_from_the_centre(self):
        for v, latches in ((139, 16), (140, 0), (200, 0), (260, 0), (261, 16), (10, 16), (400, 16), (401, 16)):
            self.pressed(centred_device(-100, 200), -100, v, latches)

    def test_near_the_centre_but_out_of_bounds(self):
        for a, v, latches in ((-301, 400, 8), (-300, 401, 16), (-360, 460, 24), (-240, 340, 0)):
            self.pressed(centred_device(-300, 400), a, v, latches)
        for a, v, latches in ((101, 10, 8), (100, 9, 16), (160, -50, 24), (40, 70, 0), (39, 71, 24)):
            self.pressed(centred_device(100, 10), a, v, latches)

    def test_both_are_bad(self):
        self.pressed(uncentred_device(), 101, 9, 24)
        self.pressed(centred_device(0, 100), 61, 161, 24)

    def test_each_latch_stays_up_behind_a_good_one(self):
        device = uncentred_device()
        self.pressed(device, 200, 100, 8)
        self.pressed(device, 0, 100, 8)
        self.pressed(device, 0, 500, 24)
        self.pressed(device, 0, 100, 24)

    def test_no_latch_where_the_line_is_not_joined(self):
        for device in (Device(), begun_device(), device_in(5)):
            self.pressed(device, 1000, -1000, 0)
            self.pressed(device, -301, 401, 0)
            self.pressed(device, 0, 100, 0)

    def test_no_latch_away_from_the_centre_of_a_line_that_is_not_joined(self):
        device = begun_device()
        call(device, PRESS, 0, 100)
        call(device, CENTRE)
        self.pressed(device, 100, 300, 0)

    def test_the_answer_tells_latches_of_before(self):
        device = begun_device()
        device.guard.latches = 129
        self.pressed(device, 0, 0, 129)
        device = uncentred_device()
        device.guard.latches = 129
        self.pressed(device, 0, 0, 129 + 16)

    def test_it_stops_a_run(self):
        device = centred_device(0, 100)
        call(device, PRESS, 61, 100)
        self.refused(device, -4, RUN, 1)

    def test_wrong_arguments(self):
        for wrong in (-1001, 1001, LEAST, GREATEST):
            self.refused(uncentred_device(), -1, PRESS, wrong, 0)
            self.refused(uncentred_device(), -1, PRESS, 0, wrong)


class CentreTest(MachineTest):
    def test_there_are_no_last_pressures(self):
        self.refused(Device(), -3, CENTRE)
        self.refused(uncentred_device(), -3, CENTRE)
        device = centred_device(0, 100)
        call(device, LEAVE)
        self.refused(device, -3, CENTRE)

    def test_last_pressures_out_of_bounds(self):
        for a, v in ((-301, 100), (101, 100), (0, 9), (0, 401), (-301, 401), (1000, -1000)):
            for device in (Device(), uncentred_device(), centred_device(0, 100)):
                call(device, PRESS, a, v)
                self.refused(device, -4, CENTRE)

    def test_the_last_pressures_are_the_centre(self):
        for a, v in ((-300, 10), (-300, 400), (100, 10), (100, 400), (0, 100)):
            for device in (Device(), uncentred_device()):
                call(device, PRESS, a, v)
                device.guard.uncentred = 7
                before = state(device)
                self.assertEqual(call(device, CENTRE), [0])
                self.changed(device, before, {"guard.centre": [a, v], "guard.uncentred": 0})

    def test_a_centre_may_be_set_anew_far_from_the_old_one(self):
        device = centred_device(0, 100)
        self.assertEqual(call(device, PRESS, 100, 300), [24])
        self.assertEqual(call(device, CENTRE), [0])
        # the latches stay up, and the old pressures count by the new centre
        self.assertEqual(call(device, PRESS, 100, 300), [24])
        self.assertEqual(call(device, RESET, 3), [16])
        self.assertEqual(call(device, RESET, 4), [0])
        self.assertEqual(call(device, PRESS, 0, 300), [8])

    def test_a_later_press_does_not_move_the_centre(self):
        device = centred_device(0, 100)
        self.assertEqual(call(device, PRESS, 50, 150), [0])
        self.assertEqual(call(device, PRESS, 61, 150), [8])
        self.assertEqual(device.guard.centre, (0, 100))

    def test_ten_moves_without_a_centre(self):
        device = uncentred_device()
        self.assertEqual(call(device, RUN, 9)[:3], [0, 9, 0])
        call(device, PRESS, 0, 100)
        self.assertEqual(call(device, GUARD)[6], 9)
        self.assertEqual(call(device, CENTRE), [0])
        self.assertEqual(call(device, GUARD)[6], 0)
        self.assertEqual(call(device, RUN, 50)[:3], [0, 50, 0])
        device = uncentred_device()
        self.assertEqual(call(device, RUN, 50)[:3], [0, 10, 64])
        self.assertEqual(call(device, GUARD)[6], 10)
        # the latch stays up behind a centre
        call(device, PRESS, 0, 100)
        self.assertEqual(call(device, CENTRE), [0])
        self.refused(device, -4, RUN, 1)

    def test_leaving_forgets_it(self):
        device = centred_device(0, 100)
        call(device, LEAVE)
        call(device, JOIN)
        self.assertEqual(call(device, PRESS, 61, 161), [0])


class LeakTest(MachineTest):
    def test_three_in_a_row(self):
        device = Device()
        before = state(device)
        for x, streak, latches in ((1000, 1, 0), (1000, 2, 0), (1000, 3, 4), (1000000, 3, 4), (1000, 3, 4),
                                   (999, 0, 4), (1000, 1, 4), (0, 0, 4)):
            self.assertEqual(call(device, LEAK, x), [latches])
            self.changed(device, before, {"guard.streak": streak, "guard.latches": latches})

    def test_a_small_one_between_begins_the_streak_anew(self):
        self.assertEqual(
            answered((LEAK, 1000), (LEAK, 1000), (LEAK, 999), (LEAK, 1000), (LEAK, 1000), (LEAK, 0), (LEAK, 1000000)),
            [[0]] * 7)
        self.assertEqual(answered((LEAK, 1000000), (LEAK, 1000), (LEAK, 1001)), [[0], [0], [4]])
        self.assertEqual(answered((LEAK, 999), (LEAK, 999), (LEAK, 999), (LEAK, 999)), [[0]] * 4)

    def test_other_calls_between_do_not_break_the_streak(self):
        device = joined_device()
        for expected in (0, 0, 4):
            call(device, RUN, 3)
            self.assertEqual(call(device, LEAK, 2000), [expected])
        self.refused(device, -4, RUN, 1)

    def test_the_answer_tells_the_other_latches(self):
        device = Device()
        device.guard.latches = 128 + 1
        self.assertEqual([call(device, LEAK, 1000) for i in range(3)], [[129], [129], [133]])

    def test_wrong_arguments(self):
        for x in (-1, 1000001, LEAST, GREATEST):
            device = Device()
            call(device, LEAK, 1000)
            self.refused(device, -1, LEAK, x)


class WaitTest(MachineTest):
    def test_with_red_in_the_line(self):
        for place in (0, 4, 15):
            for still, seconds, grown, latches in ((0, 1, 1, 0), (0, 120, 120, 0), (0, 121, 121, 128),
                                                   (100, 20, 120, 0), (100, 21, 121, 128), (0, 3600, 3600, 128),
                                                   (999999, 1, 1000000, 128), (996401, 3600, 1000000, 128),
                                                   (1000000, 1, 1000000, 128)):
                device = Device()
                device.line.cells[place] = (1, 999, 0)
                device.guard.still = still
                before = state(device)
                self.assertEqual(call(device, WAIT, seconds), [latches])
                self.changed(device, before, {"guard.still": grown, "guard.latches": latches})

    def test_without_red(self):
        device = Device()
        device.line.cells = [(0, 500, 500)] * 16
        device.guard.still = 900
        before = state(device)
        self.assertEqual(call(device, WAIT, 3600), [0])
        self.changed(device, before, {"guard.still": 0})

    def test_the_latch_stays_up_where_the_red_is_gone(self):
        device = Device()
        device.guard.latches = 128 + 2
        self.assertEqual(call(device, WAIT, 1), [130])

    def test_a_move_begins_the_time_anew(self):
        device = joined_device()
        call(device, RUN, 1)
        self.assertEqual(call(device, WAIT, 120), [0])
        call(device, RUN, 1)
        self.assertEqual(call(device, WAIT, 120), [0])
        self.assertEqual(call(device, WAIT, 1), [128])
        # a move doesn't lower the latch; it stops a joined run
        self.refused(device, -4, RUN, 1)
        call(device, LEAVE)
        self.assertEqual(call(device, RUN, 1), [0, 1, 128, 72])
        self.assertEqual(call(device, GUARD)[7], 0)

    def test_the_greatest_number_through_answers(self):
        way = self.bloody_way()
        given = answered(*way, *[(WAIT, 3600)] * 277, (GUARD,), (WAIT, 3600), (GUARD,), (WAIT, 1), (GUARD,))
        self.assertEqual([given[i][7] for i in (-5, -3, -1)], [997200, 1000000, 1000000])

    def bloody_way(self):
        return ((TEST,), (LAY,), (BAG, 60000), (PRIME, 30, 0), (RESET, 0), (HEM, 1), (3, 0, 0, 1, [1, 1, 0]),
                (JOIN,), (RUN, 1))

    def test_wrong_arguments(self):
        for seconds in (0, -1, 3601, LEAST, GREATEST):
            self.refused(begun_device(), -1, WAIT, seconds)


class VentTest(MachineTest):
    def test_all_the_air_in_the_trap(self):
        for held in (0, 1, 777, 20000):
            device = Device()
            device.line.trapped = held
            device.totals.vented = 5
            before = state(device)
            self.assertEqual(call(device, VENT), [0, held])
            self.changed(device, before, {"line.trapped": 0, "totals.vented": 5 + held})
            self.assertEqual(call(device, VENT), [0, 0])

    def test_a_full_trap_lets_air_go_by_until_it_is_vented(self):
        # no bag hangs, so only air comes; what isn't caught in the moves 21 to 24 is read in 24 to 27
        way = ((TEST,), (LAY,), (PRIME, 20, 0))
        self.assertEqual(last_answered(*way, (GUARD,))[8], 20000)
        self.assertEqual(last_answered(*way, (PRIME, 4, 0), (GUARD,))[8], 20000)
        self.assertEqual(
            answered(*way, (PRIME, 3, 0), (PRIME, 1, 0), (VENT,), (PRIME, 6, 0), (PRIME, 1, 0), (GUARD,),
                     (TOTALS,))[3:],
            [[0, 1, 5], [0, 1, 0], [0, 20000], [0, 1, 0], [0, 1, 1],
             [1, 1, 4, 0, 0, 0, 0, 0, 7000, 1, 0, 0, 0],
             [0, 0, 0, 0, 0, 63000, 0, 0, 0, 0, 0, 0, 0, 0, 11000, 0, 0, 16000, 0, 20000, 31, 2]])

    def test_in_every_phase(self):
        for phase in range(8):
            device = device_in(phase)
            device.line.trapped = 3
            self.assertEqual(call(device, VENT), [0, 3])


class CheckTest(MachineTest):
    def test_both_are_true(self):
        for latches, left in ((0, 0), (2, 0), (255, 253), (253, 253)):
            device = begun_device()
            device.guard.latches = latches
            device.guard.unlike = 2
            before = state(device)
            self.assertEqual(call(device, CHECK), [0])
            self.changed(device, before, {"guard.latches": left, "guard.unlike": 0})

    def test_one_or_both_are_stuck(self):
        for stuck, answer in (((0,), 1), ((1,), 2), ((0, 1), 3)):
            device = begun_device()
            for channel in stuck:
                call(device, FAULT, channel, 1, 0)
            device.guard.latches = 255
            device.guard.unlike = 1
            before = state(device)
            self.assertEqual(call(device, CHECK), [answer])
            self.changed(device, before, {})

    def test_a_channel_that_was_stuck(self):
        device = joined_device(taking=0)
        call(device, FAULT, 0, 1, 51)
        self.assertEqual(call(device, RUN, 5), [0, 2, 2, 0, 0, 0])
        self.assertEqual(call(device, CHECK), [1])
        self.refused(device, -4, RUN, 1)
        call(device, FAULT, 0, 0, 0)
        self.assertEqual(call(device, CHECK), [0])
        self.assertEqual(call(device, RUN, 5), [0, 5, 0, 0, 0, 0, 0, 0, 0])

    def test_unlike_begins_anew(self):
        device = begun_device()
        for channel in (0, 1):
            call(device, FAULT, channel, 1, 51)
            self.assertEqual(call(device, RUN, 1), [0, 1, 0, 0])
            call(device, FAULT, channel, 0, 0)
            self.assertEqual(call(device, CHECK), [0])
            self.assertEqual(call(device, GUARD)[4], 0)

"""Promises 14 to 17: arm, disarm, fail, back, and what is so when the power fails."""

from bloodmachine.device import Device
from bloodmachine.machine import answers
from helper import (
    ARM, BACK, BAG, BEGIN, DISARM, DISINFECT, FAIL, GUARD, HEM, JOIN, LAY, LOOK, PRIME, RESET, RUN, TEST, WAIT,
    MachineTest, answered, call, joined_device, kept, last_answered, state,
)


def full_device():
    """Joined, with something of everything that a failing could touch."""
    device = joined_device()
    device.armed = 5
    device.good = 4
    device.session_took = 77
    device.line.trapped = 33
    device.line.stuck = [4, None]
    device.line.slipped = [True, True]
    device.path.cells = [1, 2, 3, 4, 5, 6]
    device.path.wall = 9
    guard = device.guard
    guard.clean = 5
    guard.unlike = 1
    guard.streak = 2
    guard.uncentred = 3
    guard.still = 110
    return device


FAILED = {
    "power": False, "armed": None, "taking": False, "good": 0, "line.sink": 2, "guard.readings": [],
    "guard.pressures": None, "guard.centre": None, "guard.clean": 0, "guard.unlike": 0, "guard.streak": 0,
    "guard.uncentred": 0,
}


class FailTest(MachineTest):
    def test_what_is_so_when_the_power_fails(self):
        for latches, left in ((0, 0), (127, 0), (128, 128), (255, 128), (64, 0)):
            device = full_device()
            device.guard.latches = latches
            before = state(device)
            self.assertEqual(call(device, FAIL), [0])
            self.changed(device, before, dict(FAILED, **{"guard.latches": left}))

    def test_every_phase_and_every_sink(self):
        for sink in (0, 1, 2):
            device = Device()
            device.line.sink = sink
            self.assertEqual(call(device, FAIL), [0])
            self.assertEqual((device.line.sink, device.power), (2, False))

    def test_an_armed_failing_does_the_same(self):
        device = full_device()
        device.guard.latches = 129
        call(device, ARM, 0)
        before = state(device)
        self.assertEqual(call(device, 4, 100000, 0, plan=[1, 1, 1]), [1])
        self.changed(device, before, dict(FAILED, **{"guard.latches": 128}))

    def test_through_answers(self):
        self.assertEqual(answers([FAIL]), [1, 0])
        self.assertEqual(answers([FAIL, FAIL, TEST]), [1, 0, 1, -2, 1, -2])


class ArmTest(MachineTest):
    def test_arming(self):
        device = Device()
        before = state(device)
        for j in (0, 1, 1000000, 3):
            self.assertEqual(call(device, ARM, j), [0])
            self.changed(device, before, {"armed": j})

    def test_disarming(self):
        device = Device()
        before = state(device)
        self.assertEqual(call(device, DISARM), [0])
        self.changed(device, before, {})
        call(device, ARM, 0)
        self.assertEqual(call(device, DISARM), [0])
        self.changed(device, before, {})
        self.assertEqual(call(device, TEST), [0, 0])

    def test_it_counts_small_steps_over_several_calls(self):
        # test 2, lay 3, prime 4
        for armed in range(10):
            done = answers([ARM, armed, TEST, LAY, PRIME, 4, 2])[2:]
            if armed < 2:
                self.assertEqual(done, [1, 1, 1, -2, 1, -2])
            elif armed < 5:
                self.assertEqual(done, [2, 0, 0, 1, 1, 1, -2])
            elif armed < 9:
                self.assertEqual(done, [2, 0, 0, 1, 0, 1, 1])
            else:
                self.assertEqual(done, [2, 0, 0, 1, 0, 3, 0, 1, 0])

    def test_calls_without_small_steps_do_not_count(self):
        device = Device()
        call(device, ARM, 1)
        call(device, LAY)
        call(device, 12, 5)
        call(device, 13)
        self.assertEqual((device.armed, device.power), (1, True))

    def test_a_greater_number_becomes_one_less_with_each_small_step(self):
        device = Device()
        call(device, ARM, 1000000)
        call(device, DISINFECT, 7)
        self.assertEqual(device.armed, 1000000 - 9)

    def test_arming_anew(self):
        device = Device()
        call(device, ARM, 0)
        call(device, ARM, 2)
        self.assertEqual(call(device, TEST), [0, 0])
        self.assertEqual(device.armed, 0)
        self.assertEqual(call(device, LAY), [1])
        self.assertEqual((device.armed, kept(device)[0]), (None, 1))


class BackTest(MachineTest):
    def test_it_is_refused_with_power(self):
        self.refused(Device(), -3, BACK, 0)
        self.refused(full_device(), -3, BACK, 100000)
        self.assertEqual(answered((BACK, 5), (FAIL,), (BACK, 5), (BACK, 5)), [[-3], [0], [0, 0, 0, 0], [-3]])

    def test_a_wrong_argument_goes_first_with_power_or_without(self):
        device = Device()
        for d in (-1, 100001):
            self.refused(device, -1, BACK, d)
        call(device, FAIL)
        for d in (-1, 100001):
            self.refused(device, -1, BACK, d)
        self.assertEqual(call(device, BACK, 100000), [0, 0, 0, 0])

    def test_only_the_power_and_what_wait_changes_are_new(self):
        device = full_device()
        call(device, FAIL)
        before = state(device)
        self.assertEqual(call(device, BACK, 7), [0, 3, 0, 0])
        self.changed(device, before, {"power": True, "guard.still": 0})

    def test_the_answer(self):
        device = joined_device(goal=3600)
        call(device, RUN, 3)
        call(device, FAIL)
        self.assertEqual(call(device, BACK, 120), [0, 3, 0, 108])
        call(device, FAIL)
        self.assertEqual(call(device, BACK, 1), [0, 3, 128, 108])

    def test_still_with_red_in_the_line(self):
        # the red is anywhere, also in one cell alone
        for place in (0, 7, 15):
            for still, d, grown, latches in ((0, 0, 0, 0), (5, 0, 5, 0), (0, 120, 120, 0), (0, 121, 121, 128),
                                             (120, 0, 120, 0), (120, 1, 121, 128), (121, 0, 121, 128),
                                             (999999, 1, 1000000, 128), (999999, 2, 1000000, 128),
                                             (1000000, 100000, 1000000, 128)):
                device = Device()
                device.line.cells[place] = (1, 0, 0)
                device.guard.still = still
                call(device, FAIL)
                before = state(device)
                self.assertEqual(call(device, BACK, d), [0, 0, latches, 0])
                self.changed(device, before, {"power": True, "guard.still": grown, "guard.latches": latches})

    def test_still_without_red(self):
        for d in (0, 1, 121, 100000):
            for still in (0, 7, 500):
                device = Device()
                device.line.cells = [(0, 900, 100)] * 16
                device.guard.still = still
                call(device, FAIL)
                before = state(device)
                self.assertEqual(call(device, BACK, d), [0, 0, 0, 0])
                self.changed(device, before, {"power": True, "guard.still": 0})

    def test_a_mark_of_standing_blood_stays(self):
        device = Device()
        device.guard.latches = 255
        call(device, FAIL)
        self.assertEqual(call(device, BACK, 0), [0, 0, 128, 0])

    def test_time_goes_on_from_what_was_before_the_failing(self):
        way = ((TEST,), (LAY,), (BAG, 60000), (PRIME, 30, 0), (RESET, 0), (HEM, 300), (BEGIN, 0, 0, 1, [1, 1, 0]),
               (JOIN,), (RUN, 1), (WAIT, 60), (FAIL,))
        self.assertEqual(last_answered(*way, (BACK, 60)), [0, 3, 0, 0])
        self.assertEqual(last_answered(*way, (BACK, 61)), [0, 3, 128, 0])
        self.assertEqual(last_answered(*way, (BACK, 60), (WAIT, 1)), [128])
        self.assertEqual(last_answered(*way, (BACK, 0), (GUARD,))[7], 60)

    def test_nothing_is_armed_then(self):
        self.assertEqual(last_answered((ARM, 0), (TEST,), (BACK, 0), (LOOK,))[:4], [0, 1, -1, 0])
        self.assertEqual(answered((ARM, 1), (TEST,), (BACK, 0), (TEST,)), [[0], [1], [0, 0, 0, 0], [0, 0]])

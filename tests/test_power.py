"""Promises 14 to 16: arm, disarm, fail, and what is so when the power fails."""

from bloodmachine.device import Device
from bloodmachine.machine import answers
from helper import (
    ARM, DISARM, DISINFECT, FAIL, LAY, PRIME, TEST, MachineTest, call, joined_device, kept, state,
)


def full_device():
    """Joined, with something of everything that a failing could touch."""
    device = joined_device()
    device.armed = 5
    device.good = 4
    device.session_took = 77
    device.line.trapped = 33
    device.line.stuck = [4, None]
    device.line.slipped = [True, True]
    device.path.cells = [1, 2, 3, 4, 5, 6]
    device.path.wall = 9
    guard = device.guard
    guard.clean = 5
    guard.unlike = 1
    guard.streak = 2
    guard.uncentred = 3
    guard.still = 110
    return device


FAILED = {
    "power": False, "armed": None, "taking": False, "good": 0, "line.sink": 2, "guard.readings": [],
    "guard.pressures": None, "guard.centre": None, "guard.clean": 0, "guard.unlike": 0, "guard.streak": 0,
    "guard.uncentred": 0,
}


class FailTest(MachineTest):
    def test_what_is_so_when_the_power_fails(self):
        for latches, left in ((0, 0), (127, 0), (128, 128), (255, 128), (64, 0)):
            device = full_device()
            device.guard.latches = latches
            before = state(device)
            self.assertEqual(call(device, FAIL), [0])
            self.changed(device, before, dict(FAILED, **{"guard.latches": left}))

    def test_every_phase_and_every_sink(self):
        for sink in (0, 1, 2):
            device = Device()
            device.line.sink = sink
            self.assertEqual(call(device, FAIL), [0])
            self.assertEqual((device.line.sink, device.power), (2, False))

    def test_an_armed_failing_does_the_same(self):
        device = full_device()
        device.guard.latches = 129
        call(device, ARM, 0)
        before = state(device)
        self.assertEqual(call(device, 4, 100000, 0, plan=[1, 1, 1]), [1])
        self.changed(device, before, dict(FAILED, **{"guard.latches": 128}))

    def test_through_answers(self):
        self.assertEqual(answers([FAIL]), [1, 0])
        self.assertEqual(answers([FAIL, FAIL, TEST]), [1, 0, 1, -2, 1, -2])


class ArmTest(MachineTest):
    def test_arming(self):
        device = Device()
        before = state(device)
        for j in (0, 1, 1000000, 3):
            self.assertEqual(call(device, ARM, j), [0])
            self.changed(device, before, {"armed": j})

    def test_disarming(self):
        device = Device()
        before = state(device)
        self.assertEqual(call(device, DISARM), [0])
        self.changed(device, before, {})
        call(device, ARM, 0)
        self.assertEqual(call(device, DISARM), [0])
        self.changed(device, before, {})
        self.assertEqual(call(device, TEST), [0, 0])

    def test_it_counts_small_steps_over_several_calls(self):
        # test 2, lay 3, prime 4
        for armed in range(10):
            done = answers([ARM, armed, TEST, LAY, PRIME, 4, 2])[2:]
            if armed < 2:
                self.assertEqual(done, [1, 1, 1, -2, 1, -2])
            elif armed < 5:
                self.assertEqual(done, [2, 0, 0, 1, 1, 1, -2])
            elif armed < 9:
                self.assertEqual(done, [2, 0, 0, 1, 0, 1, 1])
            else:
                self.assertEqual(done, [2, 0, 0, 1, 0, 3, 0, 1, 0])

    def test_calls_without_small_steps_do_not_count(self):
        device = Device()
        call(device, ARM, 1)
        call(device, LAY)
        call(device, 12, 5)
        call(device, 13)
        self.assertEqual((device.armed, device.power), (1, True))

    def test_a_greater_number_becomes_one_less_with_each_small_step(self):
        device = Device()
        call(device, ARM, 1000000)
        call(device, DISINFECT, 7)
        self.assertEqual(device.armed, 1000000 - 9)

    def test_arming_anew(self):
        device = Device()
        call(device, ARM, 0)
        call(device, ARM, 2)
        self.assertEqual(call(device, TEST), [0, 0])
        self.assertEqual(device.armed, 0)
        self.assertEqual(call(device, LAY), [1])
        self.assertEqual((device.armed, kept(device)[0]), (None, 1))

"""Promises 0 to 2: test, lay, prime."""

from bloodmachine.device import Device
from bloodmachine.machine import answers
from helper import (
    ARM, LAY, PRIME, PRIMING, TEST, TESTED, MachineTest, call, device_in, keep, kept, primed_device,
    record_of, state,
)


class SelfTestTest(MachineTest):
    def test_phase_1_is_kept_and_the_rest_stays(self):
        device = device_in(0)
        keep(device, 0, record_of(t=3, counted=7, on=False))
        before = state(device)
        self.assertEqual(call(device, TEST), [0, 0])
        slot = before["store"]["slots"][0]
        self.changed(device, before, {"store.slots": [slot, {
            "number": 8, "memory": {"phase": 1, "record": slot["memory"]["record"]}}]})

    def test_stuck_channels(self):
        for stuck, answer in (([0, None], 1), ([None, 0], 2), ([5, 1000], 3)):
            device = Device()
            device.line.stuck = stuck
            call(device, ARM, 0)
            before = state(device)
            self.assertEqual(call(device, TEST), [0, answer])
            self.changed(device, before, {})

    def test_other_phases(self):
        for phase in range(1, 8):
            device = device_in(phase)
            device.line.stuck = [1, 1]
            self.refused(device, -3, TEST)
        self.assertEqual(answers([TEST, TEST]), [2, 0, 0, 1, -3])

    def test_power_failing(self):
        for armed in (0, 1):
            device = Device()
            call(device, ARM, armed)
            self.assertEqual(call(device, TEST), [1])
            self.assertEqual(kept(device)[0], 0)
            self.assertFalse(device.power)
        device = Device()
        call(device, ARM, 2)
        self.assertEqual(call(device, TEST), [0, 0])
        self.assertEqual((kept(device)[0], device.armed, device.power), (1, 0, True))


def used_device():
    """In phase 1, with an old line that holds something of everything."""
    device = device_in(TESTED)
    device.line.cells = [(1, 2, 3)] * 16
    device.line.trapped = 400
    device.line.source = 2
    device.line.sink = 2
    device.line.haematocrit = 300
    device.line.bag = 5
    device.line.stuck = [9, None]
    device.line.slipped = [False, True]
    device.path.cells = [1, 1, 1, 1, 1, 1]
    device.path.wall = 3
    guard = device.guard
    guard.readings = [1, 2]
    guard.pressures = (1, 2)
    guard.centre = (3, 4)
    guard.clean = guard.unlike = guard.streak = guard.uncentred = guard.still = 2
    guard.latches = 255
    return device


NEW_LINE = {
    "line.cells": [[0, 0, 1000]] * 16, "line.trapped": 0, "line.sink": 0,
    "guard.readings": [], "guard.pressures": None, "guard.centre": None, "guard.clean": 0, "guard.unlike": 0,
    "guard.streak": 0, "guard.uncentred": 0, "guard.still": 0, "guard.latches": 0,
    "totals.thrown_away": [16, 32, 48], "totals.vented": 400, "totals.air_in": 32000, "totals.lines": 2,
}


class LayTest(MachineTest):
    def test_a_new_line(self):
        device = used_device()
        before = state(device)
        self.assertEqual(call(device, LAY), [0])
        slot = before["store"]["slots"][0]
        written = {"number": 8, "memory": {"phase": 2, "record": slot["memory"]["record"]}}
        self.changed(device, before, dict(NEW_LINE, **{"store.slots": [slot, written]}))

    def test_the_totals_go_on(self):
        device = used_device()
        call(device, LAY)
        keep(device, TESTED)
        device.line.trapped = 7
        call(device, LAY)
        totals = device.totals
        self.assertEqual(totals.thrown_away, (16, 32, 16048))
        self.assertEqual((totals.vented, totals.air_in, totals.lines), (407, 48000, 3))

    def test_other_phases_go_ahead_of_too_many_lines(self):
        for phase in (0, 2, 3, 4, 5, 6, 7):
            device = device_in(phase)
            device.totals.lines = 1000000
            self.refused(device, -3, LAY)
        self.assertEqual(answers([LAY]), [1, -3])

    def test_a_million_lines(self):
        device = device_in(TESTED)
        device.totals.lines = 999999
        self.assertEqual(call(device, LAY), [0])
        self.assertEqual(device.totals.lines, 1000000)
        keep(device, TESTED)
        self.refused(device, -4, LAY)

    def test_power_failing_ahead_of_each_small_step(self):
        device = used_device()
        cells = list(device.line.cells)
        call(device, ARM, 0)
        self.assertEqual(call(device, LAY), [1])
        self.assertEqual((device.line.cells, device.line.trapped, device.totals.lines), (cells, 400, 1))
        self.assertEqual((device.guard.latches, device.guard.still), (128, 2))
        self.assertEqual((kept(device)[0], device.power), (1, False))
        for armed, older in ((1, [7, None]), (2, [7, None])):
            device = used_device()
            before = state(device)
            call(device, ARM, armed)
            self.assertEqual(call(device, LAY), [1])
            self.changed(device, before, dict(NEW_LINE, **{"power": False, "line.sink": 2}))
            self.assertEqual(kept(device)[0], 1)
        device = used_device()
        call(device, ARM, 3)
        self.assertEqual(call(device, LAY), [0])
        self.assertEqual((device.armed, kept(device)[0]), (0, 2))

    def test_the_older_slot_is_bad_between_the_two_steps_of_a_write(self):
        for armed, phases in ((1, [0, 1]), (2, [None, 1])):
            device = Device()
            call(device, TEST)
            call(device, ARM, armed)
            self.assertEqual(call(device, LAY), [1])
            self.assertEqual(
                [None if slot is None else slot.memory.phase for slot in device.store.slots], phases)


class PrimeTest(MachineTest):
    def test_the_answer(self):
        self.assertEqual(answers([TEST, LAY, PRIME, 3, 0]), [2, 0, 0, 1, 0, 3, 0, 1, 0])
        # the three cells behind the trap are read as air, and count for three readings more
        for moves, clean in ((6, 0), (7, 1), (10, 4), (11, 5), (12, 5), (23, 5), (24, 0), (100, 0)):
            self.assertEqual(answers([TEST, LAY, PRIME, moves, 0])[5:], [3, 0, 1, clean])

    def test_the_first_reading_already_latches(self):
        self.assertEqual(answers([TEST, LAY, PRIME, 1, 2])[5:], [3, 0, 1, 0])

    def test_water_of_the_bag_goes_through(self):
        device = device_in(PRIMING)
        device.line.bag = 20000
        self.assertEqual(call(device, PRIME, 20, 0), [0, 1, 5])
        self.assertEqual(device.line.cells, [(0, 1000, 0)] * 16)
        self.assertEqual((device.line.bag, device.line.trapped, device.line.source), (0, 8000, 1))
        # 8 cells left with their air, 8 were emptied by the trap, 4 of water came after
        self.assertEqual(device.totals.drained, (0, 4000, 8000))
        self.assertEqual((device.totals.moves, device.totals.from_bags), (20, 20000))
        self.assertEqual(device.totals.taken, 0)

    def test_a_loop_moves_what_is_in_it(self):
        device = primed_device()
        device.line.cells[15] = (0, 990, 10)
        bag = device.line.bag
        self.assertEqual(call(device, PRIME, 1, 2), [0, 0, 5])
        self.assertEqual(device.line.cells, [(0, 990, 10)] + [(0, 1000, 0)] * 15)
        self.assertEqual((device.line.sink, device.line.bag), (2, bag))
        self.assertEqual(call(device, PRIME, 1, 0), [0, 0, 5])
        self.assertEqual((device.line.sink, device.line.bag), (0, bag - 1000))

    def test_aiming_forgets_only_where_the_sink_changes(self):
        for x, pressures in ((0, (5, 6)), (2, None)):
            device = primed_device()
            device.guard.pressures = (5, 6)
            device.guard.centre = (5, 6)
            call(device, PRIME, 1, x)
            self.assertEqual((device.guard.pressures, device.guard.centre), (pressures, pressures))

    def test_it_primes_whatever_is_latched(self):
        device = primed_device()
        device.guard.latches = 255
        self.assertEqual(call(device, PRIME, 2, 0), [0, 255, 5])
        self.assertEqual(device.totals.moves, 102)

    def test_other_phases_go_ahead_of_too_many_moves(self):
        for phase in (0, 1, 3, 4, 5, 6, 7):
            device = device_in(phase)
            device.totals.moves = 1000000000
            self.refused(device, -3, PRIME, 1, 0)

    def test_a_thousand_million_moves(self):
        device = device_in(PRIMING)
        device.totals.moves = 999999990
        self.refused(device, -4, PRIME, 11, 2)
        self.assertEqual(call(device, PRIME, 10, 2)[0], 0)
        self.assertEqual(device.totals.moves, 1000000000)
        self.refused(device, -4, PRIME, 1, 2)

    def test_power_failing_ahead_of_each_move(self):
        for armed in range(5):
            device = primed_device()
            device.line.source = 0
            call(device, ARM, armed)
            self.assertEqual(call(device, PRIME, 5, 0), [1])
            self.assertEqual(device.totals.moves, 100 + armed)
            self.assertEqual(device.line.bag, 5000000 - 100000 - 1000 * armed)
            # the source was set ahead of all small steps
            self.assertEqual((device.line.source, device.line.sink, device.power), (1, 2, False))
            self.assertEqual((device.guard.readings, device.guard.clean), ([], 0))
            self.assertEqual(kept(device)[0], PRIMING)
        device = primed_device()
        call(device, ARM, 5)
        self.assertEqual(call(device, PRIME, 5, 0), [0, 0, 5])
        self.assertEqual((device.armed, device.power), (0, True))

    def test_power_failing_through_answers(self):
        self.assertEqual(answers([TEST, LAY, ARM, 2, PRIME, 2, 0, PRIME, 1, 0, PRIME, 1, 0]),
                         [2, 0, 0, 1, 0, 1, 0, 3, 0, 1, 0, 1, 1, 1, -2])

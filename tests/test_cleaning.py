"""Promises 11 to 13: disinfect, rinse, clear."""

from bloodmachine.device import Device
from bloodmachine.machine import answers
from helper import (
    ARM, CLEAR, DISINFECT, DISINFECTING, IDLE, LAY, RINSE, RINSING, SPENT, TEST, TESTED, MachineTest, call, device_in,
    keep, kept, record_of, state,
)


def disinfected_device(k=100):
    device = Device()
    assert call(device, DISINFECT, k) == [0]
    return device


class DisinfectTest(MachineTest):
    def test_each_small_step(self):
        device = device_in(SPENT)
        device.path.cells = [1, 2, 3, 4, 5, 6]
        device.path.wall = 7
        device.good = 4
        keep(device, SPENT, record_of(t=4, on=False))
        before = state(device)
        self.assertEqual(call(device, DISINFECT, 2), [0])
        slot = before["store"]["slots"][0]
        written = {"number": 8, "memory": {"phase": 6, "record": slot["memory"]["record"]}}
        self.changed(device, before, {
            "store.slots": [slot, written], "path.cells": [1000, 1000, 1, 2, 3, 4], "path.wall": 47, "good": 0})

    def test_the_wall_takes_no_more_than_2000(self):
        device = disinfected_device(99)
        self.assertEqual(device.path.wall, 1980)
        for wall in (2000, 2000):
            call(device, DISINFECT, 1)
            self.assertEqual(device.path.wall, wall)
        device.path.wall = 1981
        call(device, DISINFECT, 1)
        self.assertEqual(device.path.wall, 2000)

    def test_phases(self):
        for phase in (IDLE, TESTED, SPENT, DISINFECTING, RINSING):
            device = device_in(phase)
            self.assertEqual(call(device, DISINFECT, 1), [0])
            self.assertEqual(kept(device)[0], DISINFECTING)
        for phase in (2, 3, 4):
            self.refused(device_in(phase), -3, DISINFECT, 1)
        self.assertEqual(answers([TEST, LAY, DISINFECT, 1]), [2, 0, 0, 1, 0, 1, -3])

    def test_phase_6_is_not_written_anew(self):
        device = disinfected_device(1)
        before = state(device.store)
        call(device, ARM, 1)
        self.assertEqual(call(device, DISINFECT, 1), [0])
        self.assertEqual(state(device.store), before)

    def test_power_failing_ahead_of_each_small_step(self):
        for armed in range(5):
            device = device_in(SPENT)
            call(device, ARM, armed)
            self.assertEqual(call(device, DISINFECT, 3), [1])
            self.assertEqual(kept(device)[0], SPENT if armed < 2 else DISINFECTING)
            self.assertEqual(device.path.wall, 20 * max(armed - 2, 0))
            self.assertEqual(device.path.cells.count(1000), max(armed - 2, 0))
            self.assertEqual(device.power, False)
        device = device_in(SPENT)
        call(device, ARM, 5)
        self.assertEqual(call(device, DISINFECT, 3), [0])
        self.assertEqual((device.armed, device.path.wall), (0, 60))
        for armed in range(3):
            device = device_in(DISINFECTING)
            call(device, ARM, armed)
            self.assertEqual(call(device, DISINFECT, 3), [1])
            self.assertEqual((kept(device)[0], device.path.wall), (DISINFECTING, 20 * armed))


class RinseTest(MachineTest):
    def test_each_small_step(self):
        device = device_in(DISINFECTING)
        keep(device, DISINFECTING, record_of(t=4, on=False))
        device.path.cells = [9, 9, 9, 9, 4, 5]
        device.path.wall = 17
        device.good = 3
        before = state(device)
        self.assertEqual(call(device, RINSE, 2), [0, 1])
        slot = before["store"]["slots"][0]
        written = {"number": 8, "memory": {"phase": 7, "record": slot["memory"]["record"]}}
        self.changed(device, before, {
            "store.slots": [slot, written], "path.cells": [2, 3, 9, 9, 9, 9], "path.wall": 12, "good": 1})

    def test_good_counts_cells_in_a_row_below_5(self):
        device = device_in(RINSING)
        device.path.cells = [5, 0, 4, 5, 4, 0]
        goods = [call(device, RINSE, 1)[1] for second in range(14)]
        self.assertEqual(goods, [1, 2, 0, 1, 2, 0, 1, 2, 3, 4, 5, 6, 6, 6])

    def test_the_last_cell_is_looked_at_as_it_leaves(self):
        device = disinfected_device(100)
        self.assertEqual(call(device, RINSE, 6), [0, 0])
        self.assertEqual(device.path.cells, [128, 147, 168, 192, 219, 250])
        self.assertEqual(device.path.wall, 896)
        # 112, 98, 86, ... 6, 5 come out of the wall, then, as the 31st in all, 4: it leaves 6 steps later
        row = [call(device, RINSE, 1)[1] for second in range(40)]
        self.assertEqual(row.index(1), 30)
        self.assertEqual(row[30:37], [1, 2, 3, 4, 5, 6, 6])

    def test_phases(self):
        for phase in (DISINFECTING, RINSING):
            device = device_in(phase)
            self.assertEqual(call(device, RINSE, 1), [0, 1])
            self.assertEqual(kept(device)[0], RINSING)
        for phase in range(6):
            self.refused(device_in(phase), -3, RINSE, 1)

    def test_power_failing_ahead_of_each_small_step(self):
        for armed in range(5):
            device = device_in(DISINFECTING)
            device.path.cells = [1, 2, 3, 4, 5, 6]
            device.good = 2
            call(device, ARM, armed)
            self.assertEqual(call(device, RINSE, 3), [1])
            flowed = max(armed - 2, 0)
            self.assertEqual(kept(device)[0], DISINFECTING if armed < 2 else RINSING)
            self.assertEqual(device.path.cells, [0] * flowed + [1, 2, 3, 4, 5, 6][:6 - flowed])
            self.assertEqual((device.good, device.power), (0, False))
        device = device_in(DISINFECTING)
        call(device, ARM, 5)
        self.assertEqual(call(device, RINSE, 3), [0, 3])
        self.assertEqual(device.armed, 0)
        for armed in range(3):
            device = device_in(RINSING)
            before = state(device.store)
            call(device, ARM, armed)
            self.assertEqual(call(device, RINSE, 3), [1])
            self.assertEqual((state(device.store), device.good), (before, 0))
        device = device_in(RINSING)
        call(device, ARM, 3)
        self.assertEqual(call(device, RINSE, 3), [0, 3])


class ClearTest(MachineTest):
    def test_the_machine_is_idle_again(self):
        device = device_in(RINSING)
        keep(device, RINSING, record_of(t=4, counted=5, on=False))
        device.good = 6
        before = state(device)
        self.assertEqual(call(device, CLEAR), [0])
        slot = before["store"]["slots"][0]
        written = {"number": 8, "memory": {"phase": 0, "record": slot["memory"]["record"]}}
        self.changed(device, before, {"store.slots": [slot, written]})

    def test_the_refusals_in_their_order(self):
        for phase in range(7):
            self.refused(device_in(phase), -3, CLEAR)
            device = device_in(phase)
            device.good = 6
            self.refused(device, -3, CLEAR)
        for good in range(6):
            device = device_in(RINSING)
            device.good = good
            self.refused(device, -4, CLEAR)

    def test_power_failing_ahead_of_each_small_step(self):
        for armed in (0, 1):
            device = device_in(RINSING)
            device.good = 6
            call(device, ARM, armed)
            self.assertEqual(call(device, CLEAR), [1])
            self.assertEqual((kept(device)[0], device.good, device.power), (RINSING, 0, False))
        device = device_in(RINSING)
        device.good = 6
        call(device, ARM, 2)
        self.assertEqual(call(device, CLEAR), [0])
        self.assertEqual((kept(device)[0], device.armed, device.good), (IDLE, 0, 6))


class CleaningThroughAnswersTest(MachineTest):
    def test_the_whole_cleaning(self):
        # 1000s leave for 6 steps, then what comes out of the walls
        self.assertEqual(
            answers([CLEAR, RINSE, 1, DISINFECT, 100, CLEAR, RINSE, 36, CLEAR, RINSE, 1, RINSE, 5, CLEAR, TEST]),
            [1, -3, 1, -3, 1, 0, 1, -3, 2, 0, 0, 1, -4, 2, 0, 1, 2, 0, 6, 1, 0, 2, 0, 0])

    def test_disinfecting_anew_needs_rinsing_anew(self):
        self.assertEqual(
            answers([DISINFECT, 1, RINSE, 100, DISINFECT, 1, RINSE, 5, CLEAR, RINSE, 6, CLEAR, RINSE, 1, CLEAR]),
            [1, 0, 2, 0, 6, 1, 0, 2, 0, 5, 1, -4, 2, 0, 5, 1, -4, 2, 0, 6, 1, 0])

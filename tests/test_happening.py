"""Promises 18 to 21: bag, hem, fault, slip."""

from bloodmachine.device import Device
from helper import (
    BAG, CELL, CHECK, FAULT, GREATEST, GUARD, HEM, LAY, LEAST, PRIME, RUN, SLIP, TEST, TOTALS, MachineTest, answered,
    begun_device, call, device_in, joined_device, last_answered, state,
)


class BagTest(MachineTest):
    def test_a_new_bag_takes_the_place_of_the_old_one(self):
        device = Device()
        before = state(device)
        for v in (0, 1, 5000000, 700, 0):
            self.assertEqual(call(device, BAG, v), [0])
            self.changed(device, before, {"line.bag": v})

    def test_in_every_phase(self):
        for phase in range(8):
            device = device_in(phase)
            before = state(device)
            self.assertEqual(call(device, BAG, 9), [0])
            self.changed(device, before, {"line.bag": 9})

    def test_what_is_left_of_it(self):
        self.assertEqual(
            answered((TEST,), (LAY,), (BAG, 2500), (PRIME, 2, 0), (GUARD,), (PRIME, 2, 0), (CELL, 0), (CELL, 1),
                     (CELL, 2), (GUARD,), (BAG, 40), (GUARD,))[4:],
            [[1, 0, 2, 2000, 0, 0, 0, 0, 2000, 1, 0, 500, 0], [0, 1, 0], [0, 0, 0, 1000], [0, 0, 500, 500],
             [0, 0, 1000, 0], [1, 0, 4, 3000, 0, 0, 0, 0, 4000, 1, 0, 0, 0], [0],
             [1, 0, 4, 3000, 0, 0, 0, 0, 4000, 1, 0, 40, 0]])

    def test_a_hung_bag_is_not_yet_water_that_came(self):
        self.assertEqual(last_answered((BAG, 5000000), (TOTALS,)), last_answered((TOTALS,)))

    def test_wrong_arguments(self):
        for v in (-1, 5000001, LEAST, GREATEST):
            self.refused(begun_device(), -1, BAG, v)


class HemTest(MachineTest):
    def test_from_now_on_this_is_h(self):
        device = Device()
        before = state(device)
        for h in (0, 1, 1000, 450):
            self.assertEqual(call(device, HEM, h), [0])
            self.changed(device, before, {"line.haematocrit": h})

    def test_cells_that_came_before_stay(self):
        device = joined_device(haematocrit=400, taking=0)
        call(device, RUN, 1)
        self.assertEqual(call(device, HEM, 0), [0])
        call(device, RUN, 1)
        self.assertEqual(call(device, HEM, 1000), [0])
        call(device, RUN, 1)
        self.assertEqual(
            [call(device, CELL, i) for i in range(4)],
            [[0, 1000, 0, 0], [0, 0, 1000, 0], [0, 400, 600, 0], [0, 0, 1000, 0]])
        self.assertEqual(call(device, TOTALS)[1:4], [1400, 1600, 0])

    def test_wrong_arguments(self):
        for h in (-1, 1001, LEAST, GREATEST):
            self.refused(begun_device(), -1, HEM, h)


class FaultTest(MachineTest):
    def test_stuck_and_true_again(self):
        device = Device()
        before = state(device)
        for row, stuck in (((0, 1, 0), [0, None]), ((1, 1, 1000), [0, 1000]), ((0, 1, 7), [7, 1000]),
                           ((0, 0, 7), [None, 1000]), ((0, 0, 1000), [None, 1000]), ((1, 0, 0), [None, None])):
            self.assertEqual(call(device, FAULT, *row), [0])
            self.changed(device, before, {"line.stuck": stuck})

    def test_a_stuck_channel_reads_what_it_is_stuck_at(self):
        device = begun_device()
        call(device, FAULT, 0, 1, 60)
        self.assertEqual(call(device, RUN, 2), [0, 2, 2, 0])
        self.assertEqual(call(device, GUARD)[:5], [2, 5, 4, 120, 2])
        call(device, FAULT, 0, 0, 60)
        self.assertEqual(call(device, RUN, 1), [0, 1, 2, 0])
        self.assertEqual(call(device, GUARD)[:5], [2, 5, 4, 120, 0])

    def test_a_channel_stuck_at_nothing_sees_no_air_but_the_other_does(self):
        device = begun_device()
        call(device, FAULT, 1, 1, 0)
        device.line.cells[10] = (0, 800, 200)
        self.assertEqual(call(device, RUN, 1), [0, 1, 1, 0])
        device = begun_device()
        call(device, FAULT, 0, 1, 0)
        call(device, FAULT, 1, 1, 0)
        device.line.cells[10] = (0, 800, 200)
        self.assertEqual(call(device, RUN, 1), [0, 1, 0, 0])

    def test_the_self_test_and_check_see_it(self):
        self.assertEqual(
            answered((FAULT, 1, 1, 0), (TEST,), (CHECK,), (FAULT, 0, 1, 0), (TEST,), (CHECK,), (FAULT, 1, 0, 0),
                     (TEST,), (CHECK,), (FAULT, 0, 0, 0), (CHECK,), (TEST,)),
            [[0], [0, 2], [2], [0], [0, 3], [3], [0], [0, 1], [1], [0], [0], [0, 0]])

    def test_wrong_arguments(self):
        device = begun_device()
        for wrong in (-1, 2, LEAST, GREATEST):
            self.refused(device, -1, FAULT, wrong, 0, 0)
            self.refused(device, -1, FAULT, 0, wrong, 0)
        for wrong in (-1, 1001, LEAST, GREATEST):
            for m in (0, 1):
                self.refused(device, -1, FAULT, 0, m, wrong)


class SlipTest(MachineTest):
    def test_slipped_and_not(self):
        device = Device()
        before = state(device)
        for row, slipped in (((0, 1), [True, False]), ((0, 1), [True, False]), ((1, 1), [True, True]),
                             ((0, 0), [False, True]), ((1, 0), [False, False]), ((1, 0), [False, False])):
            self.assertEqual(call(device, SLIP, *row), [0])
            self.changed(device, before, {"line.slipped": slipped})

    def test_the_arterys_needle_draws_air(self):
        device = joined_device(taking=0)
        call(device, SLIP, 0, 1)
        self.assertEqual(call(device, RUN, 1), [0, 1, 0, 0, 0])
        self.assertEqual(call(device, CELL, 0), [0, 0, 0, 1000])
        self.assertEqual(call(device, TOTALS)[1:6], [0, 0, 0, 100000, 33000])
        call(device, SLIP, 0, 0)
        call(device, RUN, 1)
        self.assertEqual(call(device, CELL, 0), [0, 400, 600, 0])

    def test_the_veins_needle_spills(self):
        device = joined_device(taking=0)
        call(device, RUN, 17)
        self.assertEqual(call(device, TOTALS)[6:12], [400, 16600, 0, 0, 0, 0])
        call(device, SLIP, 1, 1)
        self.assertEqual(call(device, RUN, 2), [0, 2, 0, 0, 0, 0])
        self.assertEqual(call(device, TOTALS)[6:12], [400, 16600, 0, 800, 1200, 0])
        call(device, SLIP, 1, 0)
        call(device, RUN, 1)
        self.assertEqual(call(device, TOTALS)[6:12], [800, 17200, 0, 800, 1200, 0])

    def test_wrong_arguments(self):
        for wrong in (-1, 2, LEAST, GREATEST):
            self.refused(begun_device(), -1, SLIP, wrong, 0)
            self.refused(begun_device(), -1, SLIP, 0, wrong)

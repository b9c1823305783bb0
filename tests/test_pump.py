"""The pump move's twelve steps, aiming, and the path's flow."""

from bloodmachine.device import Device
from bloodmachine.pump import pump_move
from helper import MachineTest, state

WATER = (0, 1000, 0)
BLOOD = (400, 600, 0)


def device_with(cells=None, source=0, sink=0, **others):
    """A new object whose line is filled by hand with cells (water, if none are told)."""
    device = Device()
    device.line.cells = list(cells) if cells else [WATER] * 16
    device.line.source = source
    device.line.sink = sink
    for name, value in others.items():
        assert hasattr(device.line, name)
        setattr(device.line, name, value)
    return device


def with_cell(place, cell):
    cells = [WATER] * 16
    cells[place] = cell
    return cells


class NewCellTest(MachineTest):
    def test_the_air_of_the_room(self):
        device = device_with(source=0)
        pump_move(device, 0)
        self.assertEqual(device.line.cells, [(0, 0, 1000)] + [WATER] * 15)
        self.assertEqual(device.totals.air_in, 17000)

    def test_the_bag_runs_out(self):
        device = device_with(source=1, bag=2300)
        for expected, left in (((0, 1000, 0), 1300), ((0, 1000, 0), 300), ((0, 300, 700), 0), ((0, 0, 1000), 0)):
            pump_move(device, 0)
            self.assertEqual(device.line.cells[0], expected)
            self.assertEqual(device.line.bag, left)
        self.assertEqual(device.totals.from_bags, 2300)
        self.assertEqual(device.totals.air_in, 16000 + 1700)

    def test_the_patient(self):
        for h in (0, 450, 1000):
            device = device_with(source=2, haematocrit=h)
            pump_move(device, 0)
            pump_move(device, 0)
            self.assertEqual(device.line.cells[:2], [(h, 1000 - h, 0)] * 2)
            self.assertEqual(device.totals.from_patient, (2 * h, 2000 - 2 * h, 0))
            self.assertEqual(device.totals.air_in, 16000)

    def test_the_arterys_needle_slipped(self):
        device = device_with(source=2, haematocrit=450, slipped=[True, False])
        pump_move(device, 0)
        self.assertEqual(device.line.cells[0], (0, 0, 1000))
        self.assertEqual(device.totals.from_patient, (0, 0, 0))
        self.assertEqual(device.totals.air_in, 17000)
        self.assertEqual(device.totals.drained, WATER)

    def test_slipped_needles_change_nothing_of_a_bag(self):
        device = device_with(source=1, bag=1000, slipped=[True, True])
        pump_move(device, 0)
        self.assertEqual(device.line.cells[0], WATER)

    def test_a_loop_takes_from_no_source(self):
        for source in (0, 1, 2):
            device = device_with(with_cell(15, (5, 6, 7)), source, 2, bag=900, haematocrit=400)
            before = state(device)
            self.assertEqual(pump_move(device, 0), 7)
            self.changed(device, before, {
                "line.cells": [[5, 6, 7]] + [list(WATER)] * 15, "guard.readings": [0], "guard.clean": 1,
                "totals.moves": 1})


class LeavingTest(MachineTest):
    def leave(self, sink, slipped):
        device = device_with(with_cell(15, (1, 2, 3)), 2, sink, slipped=slipped)
        self.assertEqual(pump_move(device, 0), 3)
        totals = device.totals
        return totals.drained, totals.given_back, totals.spilt

    def test_where_the_last_cell_goes(self):
        nothing = (0, 0, 0)
        self.assertEqual(self.leave(0, [False, False]), ((1, 2, 3), nothing, nothing))
        self.assertEqual(self.leave(0, [True, True]), ((1, 2, 3), nothing, nothing))
        self.assertEqual(self.leave(1, [False, False]), (nothing, (1, 2, 3), nothing))
        self.assertEqual(self.leave(1, [True, False]), (nothing, (1, 2, 3), nothing))
        self.assertEqual(self.leave(1, [False, True]), (nothing, nothing, (1, 2, 3)))
        self.assertEqual(self.leave(2, [True, True]), (nothing, nothing, nothing))

    def test_all_cells_go_on_by_one(self):
        cells = [(i, 0, 0) for i in range(16)]
        device = device_with(cells, sink=2)
        pump_move(device, 0)
        self.assertEqual(device.line.cells, [cells[15]] + cells[:15])


class DialyserTest(MachineTest):
    def take(self, wished, cell):
        device = device_with(with_cell(3, cell))
        device.session_took = 10
        device.totals.taken = 100
        pump_move(device, wished)
        self.assertEqual(device.session_took - 10, device.totals.taken - 100)
        return device.line.cells[4], device.session_took - 10

    def test_the_smaller_of_what_is_wished_and_the_water(self):
        self.assertEqual(self.take(0, BLOOD), ((400, 600, 0), 0))
        self.assertEqual(self.take(250, BLOOD), ((400, 350, 0), 250))
        self.assertEqual(self.take(600, BLOOD), ((400, 0, 0), 600))
        self.assertEqual(self.take(601, BLOOD), ((400, 0, 0), 600))
        self.assertEqual(self.take(500, (0, 0, 1000)), ((0, 0, 1000), 0))

    def test_the_thickness_is_seen_behind_the_taking(self):
        # 700 of 1000 is not yet too thick; of 999 it is
        for cell, wished, latches in (((700, 300, 0), 0, 0), ((700, 300, 0), 1, 32), ((701, 299, 0), 0, 32),
                                      ((7, 3, 990), 0, 0), ((8, 3, 989), 0, 32), ((1, 0, 0), 0, 32),
                                      ((0, 0, 1000), 0, 0)):
            device = device_with(with_cell(3, cell))
            pump_move(device, wished)
            self.assertEqual(device.guard.latches, latches)

    def test_only_the_cell_at_the_dialyser_is_seen(self):
        for place in (2, 4, 15):
            device = device_with(with_cell(place, (1000, 0, 0)))
            pump_move(device, 0)
            self.assertEqual(device.guard.latches, 0)


class TrapTest(MachineTest):
    def test_the_trap_takes_air(self):
        device = device_with(with_cell(7, (10, 20, 300)))
        device.line.trapped = 50
        pump_move(device, 0)
        self.assertEqual(device.line.cells[8], (10, 20, 0))
        self.assertEqual(device.line.trapped, 350)

    def test_the_trap_has_room_for_20000(self):
        for held, left, caught in ((19000, 0, 1000), (19001, 1, 999), (19999, 999, 1), (20000, 1000, 0)):
            device = device_with(with_cell(7, (0, 0, 1000)))
            device.line.trapped = held
            pump_move(device, 0)
            self.assertEqual(device.line.cells[8], (0, 0, left))
            self.assertEqual(device.line.trapped, held + caught)

    def test_air_elsewhere_stays(self):
        device = device_with([(0, 0, 100)] * 16, sink=2)
        pump_move(device, 0)
        self.assertEqual(device.line.cells, [(0, 0, 100)] * 8 + [(0, 0, 0)] + [(0, 0, 100)] * 7)


class DetectorTest(MachineTest):
    def readings(self, airs):
        """Moves on until these airs were read; answers clean and the latches after each."""
        device = Device()
        row = []
        for air in airs:
            device.line.cells = with_cell(10, (0, 0, air))
            pump_move(device, 0)
            row.append((device.guard.clean, device.guard.latches))
        return device, row

    def test_a_reading_below_200_is_good(self):
        self.assertEqual(self.readings([199])[1], [(1, 0)])
        self.assertEqual(self.readings([200])[1], [(0, 1)])

    def test_four_readings_below_400_together_are_good(self):
        self.assertEqual(self.readings([100, 100, 100, 99])[1][-1], (4, 0))
        self.assertEqual(self.readings([100, 100, 100, 100])[1][-1], (0, 1))
        self.assertEqual(self.readings([199, 199, 1, 1])[1], [(1, 0), (2, 0), (3, 0), (0, 1)])

    def test_the_newest_four_are_kept_newest_first(self):
        device, row = self.readings([5, 1, 2, 3, 4])
        self.assertEqual(device.guard.readings, [4, 3, 2, 1])
        self.assertEqual(self.readings([199, 100, 50, 50, 199])[1][-1], (5, 0))
        self.assertEqual(self.readings([199, 100, 50, 51])[1][-1], (0, 1))

    def test_clean_never_grows_beyond_5(self):
        row = self.readings([0] * 8)[1]
        self.assertEqual([clean for clean, latches in row], [1, 2, 3, 4, 5, 5, 5, 5])

    def test_clean_begins_anew_behind_a_bad_reading_and_the_latch_stays(self):
        row = self.readings([0, 0, 300, 0, 0, 0, 0])[1]
        self.assertEqual(row, [(1, 0), (2, 0), (0, 1), (1, 1), (2, 1), (3, 1), (4, 1)])

    def test_the_greater_channel_is_the_reading(self):
        for stuck, reading in (([None, 7], 30), ([31, None], 31), ([None, 31], 31), ([3, 4], 4), ([1000, 0], 1000)):
            device = device_with(with_cell(10, (0, 0, 30)), stuck=stuck)
            pump_move(device, 0)
            self.assertEqual(device.guard.readings, [reading])

    def test_channels_more_than_50_apart(self):
        for stuck, unlike in (([0, 50], 0), ([0, 51], 1), ([50, 0], 0), ([51, 0], 1), ([None, 80], 0), ([None, 81], 1)):
            device = device_with([(0, 0, 30)] * 16, sink=2, stuck=stuck)
            pump_move(device, 0)
            self.assertEqual((device.guard.unlike, device.guard.latches), (unlike, 0))
            pump_move(device, 0)
            self.assertEqual((device.guard.unlike, device.guard.latches), (2 * unlike, 2 * unlike))
            pump_move(device, 0)
            self.assertEqual((device.guard.unlike, device.guard.latches), (2 * unlike, 2 * unlike))

    def test_unlike_begins_anew_where_they_are_alike(self):
        device = device_with(sink=2, stuck=[None, 60])
        pump_move(device, 0)
        device.line.stuck = [None, None]
        pump_move(device, 0)
        self.assertEqual(device.guard.unlike, 0)
        device.line.stuck = [None, 60]
        pump_move(device, 0)
        self.assertEqual((device.guard.unlike, device.guard.latches), (1, 0))


class CentreAndStillTest(MachineTest):
    def test_ten_joined_moves_without_a_centre(self):
        device = device_with(sink=1, source=2)
        for uncentred in range(1, 10):
            pump_move(device, 0)
            self.assertEqual((device.guard.uncentred, device.guard.latches), (uncentred, 0))
        for more in range(2):
            pump_move(device, 0)
            self.assertEqual((device.guard.uncentred, device.guard.latches), (10, 64))

    def test_no_count_where_there_is_a_centre_or_no_patient(self):
        for sink, centre in ((1, (0, 100)), (0, None), (2, None)):
            device = device_with(sink=sink, source=2)
            device.guard.centre = centre
            device.guard.uncentred = 4
            pump_move(device, 0)
            self.assertEqual((device.guard.uncentred, device.guard.latches), (4, 0))

    def test_no_latch_comes_of_an_old_count(self):
        device = device_with(sink=2)
        device.guard.uncentred = 10
        pump_move(device, 0)
        self.assertEqual(device.guard.latches, 0)

    def test_still_becomes_0(self):
        device = device_with(sink=2)
        device.guard.still = 77
        pump_move(device, 0)
        self.assertEqual(device.guard.still, 0)

    def test_latches_that_are_up_stay_up(self):
        device = device_with(with_cell(3, (1000, 0, 0)), sink=2)
        device.guard.latches = 255
        pump_move(device, 0)
        self.assertEqual(device.guard.latches, 255)

    def test_moves_are_counted(self):
        device = device_with(sink=2)
        pump_move(device, 0)
        pump_move(device, 0)
        self.assertEqual(device.totals.moves, 2)


class AimTest(MachineTest):
    def aimed(self, sink, at):
        device = device_with(sink=sink)
        device.guard.pressures = (0, 100)
        device.guard.centre = (1, 101)
        device.guard.uncentred = 3
        device.guard.clean = 4
        device.guard.latches = 9
        before = state(device)
        device.aim(at)
        return device, before

    def test_the_sink_as_it_is_already(self):
        for sink in (0, 1, 2):
            device, before = self.aimed(sink, sink)
            self.changed(device, before, {})

    def test_another_sink(self):
        for sink in (0, 1, 2):
            for at in {0, 1, 2} - {sink}:
                device, before = self.aimed(sink, at)
                self.changed(device, before, {
                    "line.sink": at, "guard.pressures": None, "guard.centre": None, "guard.uncentred": 0})


class FlowTest(MachineTest):
    def test_the_path_flows_in_a_move(self):
        device = device_with(sink=2)
        device.path.cells = [1, 2, 3, 4, 5, 6]
        device.path.wall = 17
        device.good = 3
        pump_move(device, 0)
        self.assertEqual(device.path.cells, [3, 1, 2, 3, 4, 5])
        self.assertEqual(device.path.wall, 14)
        self.assertEqual(device.good, 3)

    def test_how_much_comes_out_of_the_wall(self):
        for wall, first in ((0, 0), (1, 1), (8, 1), (9, 2), (16, 2), (2000, 250)):
            device = Device()
            device.path.wall = wall
            device.path.flow()
            self.assertEqual((device.path.cells[0], device.path.wall), (first, wall - first))

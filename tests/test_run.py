"""Promise 8: run."""

from helper import (
    ARM, FINISH, LEAVE, REPLAN, RETURNING, RUN, TREATING, MachineTest, begun_device, call, device_in,
    joined_device, keep, kept, record_of, state,
)


def slot_numbers(device):
    return [None if slot is None else slot.number for slot in device.store.slots]


class RunTest(MachineTest):
    def test_seconds_with_taking(self):
        device = joined_device(goal=3600, q=10)
        self.assertEqual(call(device, RUN, 3), [0, 3, 0, 108, 0, 0, 0])
        record = kept(device)[1]
        self.assertEqual((record["t"], record["counted"], record["strokes"]), (3, 108, 10))
        # strokes 3, 7, 10 of 10 each: 30, 40, 30 taken
        self.assertEqual((device.session_took, device.totals.taken), (100, 100))
        self.assertEqual(device.line.cells[4:7], [(0, 970, 0), (0, 960, 0), (0, 970, 0)])
        self.assertEqual(device.line.cells[:3], [(400, 600, 0)] * 3)
        self.assertEqual(device.totals.given_back, (0, 3000, 0))
        self.assertEqual(device.totals.from_patient, (1200, 1800, 0))
        self.assertEqual(call(device, RUN, 1), [0, 1, 0, 144, 0])

    def test_each_second_writes_the_memory(self):
        device = joined_device()
        before = max(slot_numbers(device))
        call(device, RUN, 5)
        self.assertEqual(sorted(slot_numbers(device)), [before + 4, before + 5])

    def test_the_plan_ends(self):
        device = joined_device(goal=100, q=1, plan=[3, 1, 1800000])
        self.assertEqual(call(device, RUN, 2), [0, 2, 0, 66, 0, 0])
        self.assertEqual(call(device, RUN, 3), [0, 3, 0, 100, 0, 0, 0])
        record = kept(device)[1]
        self.assertEqual((record["t"], record["counted"], record["on"]), (3, 100, True))
        self.assertEqual(device.session_took, 100)
        self.assertEqual(device.totals.moves, 105)

    def test_no_seconds_are_counted_without_taking_or_patient_or_record(self):
        device = joined_device(taking=0)
        before = slot_numbers(device)
        self.assertEqual(call(device, RUN, 2), [0, 2, 0, 0, 0, 0])
        self.assertEqual((slot_numbers(device), device.session_took), (before, 0))

        device = joined_device()
        call(device, LEAVE)
        self.assertEqual(call(device, RUN, 2), [0, 2, 0, 0])
        self.assertEqual((kept(device)[1]["t"], device.session_took), (0, 0))

        device = joined_device()
        keep(device, TREATING, record_of(on=False))
        self.assertEqual(call(device, RUN, 2), [0, 2, 0, 0, 0, 0])
        self.assertEqual((kept(device)[1]["t"], device.session_took), (0, 0))

    def test_a_replan_changes_what_is_taken(self):
        device = joined_device(goal=3600, q=10)
        call(device, RUN, 3)
        self.assertEqual(call(device, REPLAN, 208, 0, plan=[4, 1, 1800000]), [0])
        # 25 a second more, on top of 108: 133, 158, 183, 208
        self.assertEqual(call(device, RUN, 5), [0, 5, 0, 208, 0, 0, 0, 0, 0])
        record = kept(device)[1]
        self.assertEqual((record["base"], record["t"], record["strokes"]), (108, 4, 20))
        self.assertEqual(device.session_took, 200)

    def test_catching_up(self):
        plan = [1, 1, 36000, 1, 1, 7200, 2, 1, 72000]
        self.assertEqual(call(joined_device(40, 0, 1, plan), RUN, 4), [0, 4, 0, 32, 0, 0, 0, 0])
        self.assertEqual(call(joined_device(40, 1, 1, plan), RUN, 4), [0, 4, 0, 40, 0, 0, 0, 0])

    def test_no_more_water_than_there_is(self):
        device = joined_device(goal=2000, q=500, plan=[4, 1, 1800000], haematocrit=400)
        device.line.cells = [(900, 100, 0)] * 16
        device.guard.latches = 0
        self.assertEqual(call(device, RUN, 4)[:4], [0, 1, 32, 500])
        self.assertEqual(device.session_took, 100)

    def test_airs_of_the_cells_that_left(self):
        device = joined_device(taking=0)
        device.line.cells[15] = (0, 900, 100)
        device.line.cells[14] = (0, 993, 7)
        device.line.cells[13] = (0, 0, 1000)
        self.assertEqual(call(device, RUN, 4), [0, 4, 0, 0, 100, 7, 1000, 0])
        self.assertEqual(device.totals.given_back, (0, 2893, 1107))

    def test_spilt_cells_are_told_too(self):
        device = joined_device(taking=0)
        device.line.cells[15] = (0, 900, 100)
        device.line.slipped = [False, True]
        self.assertEqual(call(device, RUN, 2), [0, 2, 0, 0, 100, 0])
        self.assertEqual(device.totals.spilt, (0, 1900, 100))
        self.assertEqual(device.totals.given_back, (0, 0, 0))

    def test_a_loop_tells_no_airs(self):
        device = begun_device()
        device.line.cells[15] = (0, 900, 100)
        self.assertEqual(call(device, RUN, 3), [0, 3, 0, 0])

    def test_it_stops_where_the_guard_latches_while_joined(self):
        device = joined_device()
        device.line.cells[9] = (0, 800, 200)
        # the second second brings the cell to the detector
        self.assertEqual(call(device, RUN, 100), [0, 2, 1, 72, 0, 0])
        self.refused(device, -4, RUN, 1)

    def test_ten_seconds_without_a_centre(self):
        device = joined_device(taking=0)
        device.guard.centre = None
        self.assertEqual(call(device, RUN, 100), [0, 10, 64, 0] + [0] * 10)

    def test_a_loop_goes_on_while_latched(self):
        device = begun_device()
        device.guard.latches = 64
        self.assertEqual(call(device, RUN, 100), [0, 100, 64, 0])

    def test_it_runs_while_returning(self):
        device = joined_device()
        call(device, RUN, 3)
        call(device, FINISH)
        bag = device.line.bag
        self.assertEqual(call(device, RUN, 100), [0, 100, 0, 108] + [0] * 100)
        self.assertEqual((device.line.bag, kept(device)[1]["t"]), (bag - 100000, 3))
        self.assertEqual(device.line.cells, [(0, 1000, 0)] * 16)
        self.assertEqual(kept(device)[0], RETURNING)

    def test_the_refusals_in_their_order(self):
        for phase in (0, 1, 2, 5, 6, 7):
            device = device_in(phase)
            device.line.sink = 1
            device.guard.latches = 1
            device.totals.moves = 1000000000
            self.refused(device, -3, RUN, 1)
        for phase in (TREATING, RETURNING):
            device = device_in(phase)
            device.line.sink = 1
            device.guard.latches = 128
            device.totals.moves = 999999951
            self.refused(device, -4, RUN, 50)
            device.line.sink = 2
            self.refused(device, -5, RUN, 50)
            device.line.sink = 1
            device.guard.latches = 0
            self.refused(device, -5, RUN, 50)
            device.line.sink = 2
            self.assertEqual(call(device, RUN, 49)[:2], [0, 49])
            self.assertEqual(device.totals.moves, 1000000000)
            self.refused(device, -5, RUN, 1)


class PowerInRunTest(MachineTest):
    def test_ahead_of_each_small_step_with_taking(self):
        for armed in range(9):
            with self.subTest(armed=armed):
                device = joined_device(goal=3600, q=10)
                device.line.cells[15] = (0, 995, 5)
                call(device, ARM, armed)
                whole = armed // 3
                # the record is kept by the second small step of a second
                seconds = (armed + 1) // 3
                self.assertEqual(call(device, RUN, 3), [1, whole, 0, 36 * seconds] + [5, 0][:whole])
                self.assertEqual((kept(device)[1]["t"], kept(device)[1]["counted"]), (seconds, 36 * seconds))
                self.assertEqual(device.session_took, (0, 30, 70)[whole])
                self.assertEqual(device.totals.moves, 100 + whole)
                self.assertEqual(None in device.store.slots, armed % 3 == 1)
                self.assertEqual((device.power, device.armed, device.taking, device.line.sink),
                                 (False, None, False, 2))
        device = joined_device(goal=3600, q=10)
        call(device, ARM, 9)
        self.assertEqual(call(device, RUN, 3), [0, 3, 0, 108, 0, 0, 0])
        self.assertEqual((device.armed, device.power), (0, True))

    def test_ahead_of_each_small_step_without_taking(self):
        for armed in range(4):
            device = joined_device(taking=0)
            before = state(device.store)
            call(device, ARM, armed)
            self.assertEqual(call(device, RUN, 4), [1, armed, 0, 0] + [0] * armed)
            self.assertEqual(device.totals.moves, 100 + armed)
            self.assertEqual(state(device.store), before)
        device = begun_device()
        call(device, ARM, 2)
        self.assertEqual(call(device, RUN, 4), [1, 2, 0, 0])

    def test_the_latches_are_told_as_they_stand_then(self):
        device = begun_device()
        device.guard.latches = 1 + 64 + 128
        call(device, ARM, 1)
        self.assertEqual(call(device, RUN, 2), [1, 1, 128, 0])

    def test_a_second_that_latches_comes_ahead_of_the_failing(self):
        device = joined_device()
        device.line.cells[10] = (0, 0, 1000)
        call(device, ARM, 3)
        self.assertEqual(call(device, RUN, 5), [0, 1, 1, 36, 0])
        self.assertEqual((device.armed, device.power), (0, True))

    def test_what_was_counted_but_not_taken_is_not_taken_later(self):
        device = joined_device(goal=3600, q=10)
        call(device, ARM, 2)
        self.assertEqual(call(device, RUN, 1), [1, 0, 0, 36])
        self.assertEqual(device.session_took, 0)
        device.power = True
        device.guard.clean = 5
        device.line.sink = 1
        device.guard.centre = (0, 100)
        device.taking = True
        self.assertEqual(call(device, RUN, 1), [0, 1, 0, 72, 0])
        self.assertEqual(device.session_took, 40)

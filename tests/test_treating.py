"""Promises 3 to 7, 9 and 10: begin, replan, join, leave, taking, finish, done."""

from helper import (
    ARM, BEGIN, DONE, FINISH, IDLE, JOIN, LEAVE, PLAN, PRIMING, REPLAN, RETURNING, RUN, SPENT, TAKING, TREATING,
    MachineTest, begun_device, call, device_in, joined_device, keep, kept, primed_device, record_of, state,
)

NO_WEIGHT = [5, 0, 3600, 7, 0, 3600]


def sure_device(phase):
    device = device_in(phase)
    device.guard.clean = 5
    return device


class BeginTest(MachineTest):
    def test_a_session_begins(self):
        device = primed_device()
        device.session_took = 99
        device.taking = True
        device.guard.pressures = (1, 2)
        device.guard.centre = (1, 2)
        device.guard.uncentred = 3
        before = state(device)
        self.assertEqual(call(device, BEGIN, 100000000, 1, 500, plan=[2, 3, 4, 5, 6, 7]), [0])
        newest = before["store"]["slots"][0]
        self.assertEqual(newest["number"], 2)
        written = {"number": 3, "memory": {"phase": 3, "record": {
            "on": True, "goal": 100000000, "catching": True, "q": 500, "pieces": [[2, 3, 4], [5, 6, 7]],
            "base": 0, "t": 0, "counted": 0, "strokes": 0}}}
        self.changed(device, before, {
            "store.slots": [newest, written], "session_took": 0, "taking": False, "line.sink": 2, "line.source": 2,
            "guard.pressures": None, "guard.centre": None, "guard.uncentred": 0})

    def test_the_record_before_is_gone(self):
        device = primed_device()
        keep(device, PRIMING, record_of(9, 1, 9, base=1, t=2, counted=3, strokes=4, on=False))
        self.assertEqual(call(device, BEGIN, 0, 0, 1, plan=PLAN), [0])
        self.assertEqual(kept(device)[1], {
            "on": True, "goal": 0, "catching": False, "q": 1, "pieces": [(100, 1, 1800000)], "base": 0, "t": 0,
            "counted": 0, "strokes": 0})

    def test_a_sink_that_loops_already_is_not_aimed_anew(self):
        device = primed_device()
        device.aim(2)
        device.guard.pressures = (1, 2)
        self.assertEqual(call(device, BEGIN, 1, 0, 1, plan=PLAN), [0])
        self.assertEqual(device.guard.pressures, (1, 2))

    def test_the_refusals_in_their_order(self):
        for phase in (0, 1, 3, 4, 5, 6, 7):
            device = device_in(phase)
            device.guard.latches = 1
            self.refused(device, -3, BEGIN, 1, 0, 1, plan=NO_WEIGHT)
        for latch in (1, 2, 4, 8, 16, 32, 64, 128):
            device = device_in(PRIMING)
            device.guard.latches = latch
            self.refused(device, -4, BEGIN, 1, 0, 1, plan=NO_WEIGHT)
        for clean in range(5):
            device = device_in(PRIMING)
            device.guard.clean = clean
            self.refused(device, -5, BEGIN, 1, 0, 1, plan=NO_WEIGHT)
        self.refused(sure_device(PRIMING), -6, BEGIN, 1, 0, 1, plan=NO_WEIGHT)
        self.assertEqual(call(sure_device(PRIMING), BEGIN, 1, 0, 1, plan=NO_WEIGHT + [1, 1, 0]), [0])

    def test_power_failing_ahead_of_each_small_step(self):
        for armed, older in ((0, 1), (1, None)):
            device = primed_device()
            device.session_took = 99
            call(device, ARM, armed)
            self.assertEqual(call(device, BEGIN, 5, 1, 2, plan=PLAN), [1])
            self.assertEqual((kept(device)[0], kept(device)[1]["on"]), (PRIMING, False))
            self.assertEqual((device.session_took, device.line.source, device.power), (99, 1, False))
            slot = device.store.slots[1]
            self.assertEqual(None if slot is None else slot.number, older)
        device = primed_device()
        call(device, ARM, 2)
        self.assertEqual(call(device, BEGIN, 5, 1, 2, plan=PLAN), [0])
        self.assertEqual((kept(device)[0], device.armed, device.line.source), (TREATING, 0, 2))


class ReplanTest(MachineTest):
    def test_the_record_goes_on_under_a_new_plan(self):
        device = begun_device()
        keep(device, TREATING, record_of(3600, 0, 10, base=5, t=30, counted=1000, strokes=100))
        before = state(device)
        self.assertEqual(call(device, REPLAN, 1000, 1, plan=[2, 3, 4, 5, 6, 7]), [0])
        slot = before["store"]["slots"][0]
        written = {"number": 8, "memory": {"phase": 3, "record": {
            "on": True, "goal": 1000, "catching": True, "q": 10, "pieces": [[2, 3, 4], [5, 6, 7]],
            "base": 1000, "t": 0, "counted": 1000, "strokes": 100}}}
        self.changed(device, before, {"store.slots": [slot, written]})

    def test_catching_up_may_end(self):
        device = begun_device(catch=1)
        self.assertEqual(call(device, REPLAN, 3600, 0, plan=PLAN), [0])
        self.assertFalse(kept(device)[1]["catching"])

    def test_the_refusals_in_their_order(self):
        record = record_of(counted=1000)
        for phase in (0, 1, 2, 4, 5, 6, 7):
            device = device_in(phase)
            keep(device, phase, record)
            self.refused(device, -3, REPLAN, 1, 0, plan=NO_WEIGHT)
        device = device_in(TREATING)
        keep(device, TREATING, record)
        self.refused(device, -4, REPLAN, 999, 0, plan=NO_WEIGHT)
        self.refused(device, -5, REPLAN, 999, 0, plan=PLAN)
        self.assertEqual(call(device, REPLAN, 1000, 0, plan=PLAN), [0])

    def test_power_failing_ahead_of_each_small_step(self):
        for armed in (0, 1):
            device = joined_device()
            before = kept(device)
            call(device, ARM, armed)
            self.assertEqual(call(device, REPLAN, 50, 1, plan=[1, 1, 1]), [1])
            self.assertEqual(kept(device), before)
            self.assertEqual((device.power, device.line.sink, device.taking), (False, 2, False))
            self.assertEqual([slot is None for slot in device.store.slots], [armed == 1, False])
        device = joined_device()
        call(device, ARM, 2)
        self.assertEqual(call(device, REPLAN, 50, 1, plan=[1, 1, 1]), [0])
        self.assertEqual((kept(device)[1]["goal"], device.armed), (50, 0))


class JoinAndLeaveTest(MachineTest):
    def test_joining(self):
        for phase in (TREATING, RETURNING):
            device = sure_device(phase)
            device.guard.pressures = device.guard.centre = (1, 2)
            device.guard.uncentred = 2
            before = state(device)
            self.assertEqual(call(device, JOIN), [0])
            self.changed(device, before, {
                "line.sink": 1, "guard.pressures": None, "guard.centre": None, "guard.uncentred": 0})

    def test_the_refusals_in_their_order(self):
        for phase in (0, 1, 2, 5, 6, 7):
            device = device_in(phase)
            device.line.sink = 1
            device.guard.latches = 1
            self.refused(device, -3, JOIN)
        for phase in (TREATING, RETURNING):
            device = device_in(phase)
            device.line.sink = 1
            device.guard.latches = 128
            self.refused(device, -4, JOIN)
            device.line.sink = 2
            self.refused(device, -5, JOIN)
            device.guard.latches = 0
            for clean in range(5):
                device.guard.clean = clean
                self.refused(device, -6, JOIN)
            device.guard.clean = 5
            self.assertEqual(call(device, JOIN), [0])

    def test_leaving(self):
        device = joined_device()
        before = state(device)
        self.assertEqual(call(device, LEAVE), [0])
        self.changed(device, before, {
            "line.sink": 2, "guard.pressures": None, "guard.centre": None, "guard.uncentred": 0})
        self.refused(device, -3, LEAVE)

    def test_leaving_where_nothing_is_joined(self):
        for phase in range(8):
            for sink in (0, 2):
                device = device_in(phase)
                device.line.sink = sink
                self.refused(device, -3, LEAVE)

    def test_no_small_step_is_done(self):
        device = begun_device()
        call(device, ARM, 0)
        self.assertEqual(call(device, JOIN), [0])
        self.assertEqual(call(device, TAKING, 1), [0])
        self.assertEqual(call(device, LEAVE), [0])
        self.assertEqual((device.armed, device.power), (0, True))


class TakingTest(MachineTest):
    def test_on_and_off(self):
        device = begun_device()
        before = state(device)
        for x, taking in ((1, True), (1, True), (0, False), (0, False)):
            self.assertEqual(call(device, TAKING, x), [0])
            self.changed(device, before, {"taking": taking})

    def test_other_phases(self):
        for phase in (0, 1, 2, 4, 5, 6, 7):
            self.refused(device_in(phase), -3, TAKING, 1)
            self.refused(device_in(phase), -3, TAKING, 0)


class FinishTest(MachineTest):
    def test_a_session_ends(self):
        device = joined_device(goal=3600, q=10)
        keep(device, TREATING, record_of(3600, 1, 10, base=5, t=30, counted=1000, strokes=101))
        before = state(device)
        self.assertEqual(call(device, FINISH), [0, 3600, 1000, 101, 30])
        slot = before["store"]["slots"][0]
        written = {"number": 8, "memory": {"phase": 4, "record": dict(slot["memory"]["record"], on=False)}}
        self.changed(device, before, {"store.slots": [slot, written], "taking": False, "line.source": 1})

    def test_other_phases(self):
        for phase in (0, 1, 2, 4, 5, 6, 7):
            self.refused(device_in(phase), -3, FINISH)

    def test_power_failing_ahead_of_each_small_step(self):
        for armed in (0, 1):
            device = joined_device()
            call(device, RUN, 3)
            before = kept(device)
            call(device, ARM, armed)
            self.assertEqual(call(device, FINISH), [1])
            self.assertEqual(kept(device), before)
            self.assertEqual((device.line.source, device.power), (2, False))
            self.assertEqual([slot is None for slot in device.store.slots].count(True), armed)
        device = joined_device()
        call(device, ARM, 2)
        self.assertEqual(call(device, FINISH), [0, 3600, 0, 0, 0])
        self.assertEqual((kept(device)[0], device.line.source, device.armed), (RETURNING, 1, 0))


class DoneTest(MachineTest):
    def test_the_line_is_spent(self):
        for phase in (PRIMING, TREATING, RETURNING):
            device = device_in(phase)
            keep(device, phase, record_of(3600, 1, 10, base=5, t=30, counted=1000, strokes=101))
            device.taking = True
            before = state(device)
            self.assertEqual(call(device, DONE), [0])
            slot = before["store"]["slots"][0]
            written = {"number": 8, "memory": {"phase": 5, "record": dict(slot["memory"]["record"], on=False)}}
            self.changed(device, before, {"store.slots": [slot, written], "taking": False})

    def test_the_refusals_in_their_order(self):
        for phase in (0, 1, 5, 6, 7):
            device = device_in(phase)
            device.line.sink = 1
            self.refused(device, -3, DONE)
        for phase in (TREATING, RETURNING):
            device = device_in(phase)
            device.line.sink = 1
            self.refused(device, -4, DONE)

    def test_power_failing_ahead_of_each_small_step(self):
        for armed in (0, 1):
            device = begun_device()
            call(device, ARM, armed)
            self.assertEqual(call(device, DONE), [1])
            self.assertEqual((kept(device)[0], kept(device)[1]["on"]), (TREATING, True))
            self.assertEqual([slot is None for slot in device.store.slots].count(True), armed)
        device = begun_device()
        call(device, ARM, 2)
        self.assertEqual(call(device, DONE), [0])
        self.assertEqual((kept(device)[0], device.armed), (SPENT, 0))


class WrongPhaseTest(MachineTest):
    def test_a_new_object_refuses_a_treatment(self):
        device = device_in(IDLE)
        for place, numbers, plan in ((BEGIN, (1, 0, 1), PLAN), (REPLAN, (1, 0), PLAN), (JOIN, (), None),
                                     (LEAVE, (), None), (TAKING, (1,), None), (RUN, (1,), None),
                                     (FINISH, (), None), (DONE, (), None)):
            self.refused(device, -3, place, *numbers, plan=plan)

"""Promises 29 to 33: look, guard, cell, path, totals."""

from bloodmachine.device import Device
from helper import (
    ARM, BACK, BAG, BEGIN, CELL, CENTRE, DISARM, DISINFECT, DONE, FAIL, FAULT, FINISH, GREATEST, GUARD, HEM, JOIN, LAY,
    LEAK, LEAST, LEAVE, LOOK, PATH, PRESS, PRIME, REPLAN, RESET, RINSE, RUN, SLIP, TAKING, TEST, TOTALS, VENT, WAIT,
    MachineTest, answered, begun_device, call, joined_device, keep, last_answered, primed_device, record_of, state,
)

TELLING = ((LOOK,), (GUARD,), (CELL, 0), (CELL, 15), (PATH,), (TOTALS,))
NEW = [
    [0, 1, -1, 0, 0, 0, 0, 0, 0, 1, 0, 0, 0, 0, 0, 0],
    [0] * 13,
    [0, 0, 0, 1000],
    [0, 0, 0, 1000],
    [0] * 9,
    [0, 0, 0, 0, 0, 16000, 0, 0, 0, 0, 0, 0, 0, 0, 0, 0, 0, 0, 0, 0, 0, 1],
]
PRIMED = ((TEST,), (LAY,), (BAG, 100000), (HEM, 300), (PRIME, 20, 0), (RESET, 0))
BEGUN = PRIMED + ((BEGIN, 1000, 1, 7, [10, 1, 1800000, 5, 2, 3600]),)
JOINED = BEGUN + ((JOIN,), (PRESS, 0, 100), (CENTRE,))


class NewObjectTest(MachineTest):
    def test_what_is_told_of_a_new_object(self):
        self.assertEqual(answered(*TELLING), NEW)

    def test_telling_changes_nothing(self):
        for device in (Device(), joined_device()):
            for power in (True, False):
                device.power = power
                before = state(device)
                first = [call(device, *row) for row in TELLING]
                self.assertEqual(state(device), before)
                self.assertEqual([call(device, *row) for row in TELLING], first)

    def test_what_was_told_is_not_tied_to_the_object(self):
        device = joined_device()
        before = state(device)
        for row in TELLING:
            call(device, *row).append(5)
        self.assertEqual(state(device), before)

    def test_only_whole_numbers_are_told(self):
        for row in TELLING:
            for device in (Device(), joined_device()):
                self.assertEqual({type(number) for number in call(device, *row)}, {int})


class LookTest(MachineTest):
    def test_each_number_has_its_place(self):
        device = Device()
        record = record_of(goal=11, catch=0, q=12, plan=[4, 1, 1, 9, 1, 1], base=13, t=14, counted=15, strokes=16)
        keep(device, 5, record)
        device.session_took = 17
        self.assertEqual(call(device, LOOK), [0, 1, -1, 5, 0, 0, 1, 11, 0, 12, 13, 13, 14, 15, 16, 17])
        record.on = False
        record.catching = True
        device.line.sink = 1
        self.assertEqual(call(device, LOOK), [0, 1, -1, 5, 1, 0, 0, 11, 1, 12, 13, 13, 14, 15, 16, 17])
        device.taking = True
        device.line.sink = 2
        self.assertEqual(call(device, LOOK)[3:7], [5, 0, 1, 0])

    def test_power_and_arming(self):
        self.assertEqual(last_answered((ARM, 0), (LOOK,))[:3], [0, 1, 0])
        self.assertEqual(last_answered((ARM, 1000000), (LOOK,))[:3], [0, 1, 1000000])
        self.assertEqual(last_answered((ARM, 5), (TEST,), (LOOK,))[:4], [0, 1, 3, 1])
        self.assertEqual(last_answered((ARM, 5), (DISARM,), (LOOK,))[:3], [0, 1, -1])
        self.assertEqual(last_answered((ARM, 5), (FAIL,), (LOOK,))[:3], [0, 0, -1])
        self.assertEqual(last_answered((ARM, 1), (TEST,), (LOOK,))[:4], [0, 0, -1, 0])
        self.assertEqual(last_answered((FAIL,), (BACK, 0), (LOOK,)), NEW[0])

    def test_a_session(self):
        self.assertEqual(
            answered(*BEGUN, (LOOK,), (JOIN,), (LOOK,), (TAKING, 1), (LOOK,), (PRESS, 0, 100), (CENTRE,), (RUN, 4),
                     (LOOK,), (REPLAN, 500, 0, [3, 1, 1800000]), (LOOK,), (RUN, 2), (FINISH,), (LOOK,), (LEAVE,),
                     (DONE,), (LOOK,))[7:],
            [[0, 1, -1, 3, 0, 0, 1, 1000, 1, 7, 15, 0, 0, 0, 0, 0], [0],
             [0, 1, -1, 3, 1, 0, 1, 1000, 1, 7, 15, 0, 0, 0, 0, 0], [0],
             [0, 1, -1, 3, 1, 1, 1, 1000, 1, 7, 15, 0, 0, 0, 0, 0], [0], [0], [0, 4, 0, 200, 0, 0, 0, 0],
             [0, 1, -1, 3, 1, 1, 1, 1000, 1, 7, 15, 0, 4, 200, 28, 196], [0],
             [0, 1, -1, 3, 1, 1, 1, 500, 0, 7, 3, 200, 0, 200, 28, 196], [0, 2, 0, 400, 0, 0], [0, 500, 400, 57, 2],
             [0, 1, -1, 4, 1, 0, 0, 500, 0, 7, 3, 200, 2, 400, 57, 399], [0], [0],
             [0, 1, -1, 5, 0, 0, 0, 500, 0, 7, 3, 200, 2, 400, 57, 399]])

    def test_what_the_session_took_stays_until_the_next_one_begins(self):
        device = joined_device()
        call(device, RUN, 50)
        self.assertEqual(call(device, LOOK)[15], 1800)
        keep(device, 2)
        self.assertEqual(call(device, LOOK)[15], 1800)
        call(device, BEGIN, 1, 0, 1, plan=[1, 1, 1])
        self.assertEqual(call(device, LOOK)[15], 0)
        self.assertEqual(call(device, TOTALS)[18], 1800)

    def test_the_power_fails_in_a_session(self):
        for armed, looked in (
            (0, [0, 0, -1, 3, 0, 0, 1, 1000, 1, 7, 15, 0, 0, 0, 0, 0]),
            (1, [0, 0, -1, 3, 0, 0, 1, 1000, 1, 7, 15, 0, 0, 0, 0, 0]),
            (2, [0, 0, -1, 3, 0, 0, 1, 1000, 1, 7, 15, 0, 1, 50, 7, 0]),
            (3, [0, 0, -1, 3, 0, 0, 1, 1000, 1, 7, 15, 0, 1, 50, 7, 49]),
        ):
            self.assertEqual(last_answered(*JOINED, (TAKING, 1), (ARM, armed), (RUN, 100), (LOOK,)), looked)


class GuardTest(MachineTest):
    def test_each_number_has_its_place(self):
        device = Device()
        guard = device.guard
        guard.latches = 200
        guard.clean = 1
        guard.readings = [3, 4, 5]
        guard.unlike = 2
        guard.streak = 6
        guard.uncentred = 7
        guard.still = 8
        line = device.line
        line.trapped = 9
        line.source = 10
        line.haematocrit = 11
        line.bag = 13
        line.sink = 14
        self.assertEqual(call(device, GUARD), [200, 1, 3, 12, 2, 6, 7, 8, 9, 10, 11, 13, 14])

    def test_after_each_kind_of_thing(self):
        zeros = [0] * 13

        def guarded(*rows, **others):
            expected = list(zeros)
            for name, value in others.items():
                expected[int(name[1:])] = value
            self.assertEqual(last_answered(*rows, (GUARD,)), expected)

        guarded((BAG, 77), n11=77)
        guarded((HEM, 55), n10=55)
        guarded((LEAK, 1000), n5=1)
        guarded((LEAK, 1000), (LEAK, 1000), (LEAK, 1000), (LEAK, 1000), n0=4, n5=3)
        guarded((FAIL,), n12=2)
        guarded((FAULT, 0, 1, 5), n0=0)
        guarded((TEST,), (LAY,), (PRIME, 1, 2), n0=1, n2=1, n3=1000, n8=1000, n9=1, n12=2)
        guarded((TEST,), (LAY,), (FAULT, 1, 1, 949), (PRIME, 1, 0), n0=1, n2=1, n3=1000, n4=1, n8=1000, n9=1)
        guarded((TEST,), (LAY,), (FAULT, 1, 1, 949), (PRIME, 2, 0), n0=3, n2=2, n3=2000, n4=2, n8=2000, n9=1)
        guarded((TEST,), (LAY,), (FAULT, 1, 1, 949), (PRIME, 3, 0), n0=3, n2=3, n3=3000, n4=2, n8=3000, n9=1)
        guarded((TEST,), (LAY,), (PRIME, 11, 0), n0=1, n1=5, n2=4, n8=11000, n9=1)
        guarded((TEST,), (LAY,), (PRIME, 11, 0), (VENT,), n0=1, n1=5, n2=4, n9=1)
        guarded((TEST,), (LAY,), (PRIME, 11, 0), (FAIL,), n8=11000, n9=1, n12=2)
        guarded(*PRIMED, n1=5, n2=4, n8=8000, n9=1, n10=300, n11=80000)
        guarded(*BEGUN, n1=5, n2=4, n8=8000, n9=2, n10=300, n11=80000, n12=2)
        guarded(*BEGUN, (JOIN,), (RUN, 3), n1=5, n2=4, n6=3, n8=8000, n9=2, n10=300, n11=80000, n12=1)
        guarded(*JOINED, (RUN, 3), (WAIT, 99), n1=5, n2=4, n7=99, n8=8000, n9=2, n10=300, n11=80000, n12=1)
        guarded(*JOINED, (RUN, 3), (FINISH,), n1=5, n2=4, n8=8000, n9=1, n10=300, n11=80000, n12=1)

    def test_a_new_line(self):
        device = primed_device()
        keep(device, 1)
        call(device, LAY)
        self.assertEqual(call(device, GUARD), [0, 0, 0, 0, 0, 0, 0, 0, 0, 1, 0, 4900000, 0])


class CellTest(MachineTest):
    def test_each_cell(self):
        device = Device()
        device.line.cells = [(i, 2 * i, 3 * i) for i in range(16)]
        for i in range(16):
            self.assertEqual(call(device, CELL, i), [0, i, 2 * i, 3 * i])

    def test_wrong_arguments(self):
        for i in (-1, 16, LEAST, GREATEST):
            self.refused(begun_device(), -1, CELL, i)
            self.assertEqual(last_answered((FAIL,), (CELL, i)), [-1])

    def test_water_is_taken_at_the_dialyser(self):
        device = joined_device(goal=36000, plan=[100, 1, 1800000], q=10, haematocrit=300)
        call(device, RUN, 6)
        # 360 a second; blood came to the dialyser with the fifth move
        self.assertEqual([call(device, CELL, i) for i in range(7)],
                         [[0, 300, 700, 0]] * 4 + [[0, 300, 340, 0]] * 2 + [[0, 0, 640, 0]])


class PathTest(MachineTest):
    def test_each_number_has_its_place(self):
        device = Device()
        device.path.cells = [1, 2, 3, 4, 5, 6]
        device.path.wall = 7
        device.good = 8
        self.assertEqual(call(device, PATH), [0, 1, 2, 3, 4, 5, 6, 7, 8])

    def test_disinfecting_and_rinsing(self):
        self.assertEqual(
            answered((DISINFECT, 2), (PATH,), (RINSE, 1), (PATH,), (RINSE, 3), (PATH,), (RINSE, 2), (PATH,), (RINSE, 5),
                     (PATH,), (FAIL,), (PATH,)),
            [[0], [0, 1000, 1000, 0, 0, 0, 0, 40, 0], [0, 1], [0, 5, 1000, 1000, 0, 0, 0, 35, 1], [0, 4],
             [0, 4, 4, 5, 5, 1000, 1000, 22, 4], [0, 0], [0, 3, 3, 4, 4, 5, 5, 16, 0], [0, 3],
             [0, 1, 2, 2, 2, 2, 3, 7, 3], [0], [0, 1, 2, 2, 2, 2, 3, 7, 0]])

    def test_the_wall_is_full(self):
        self.assertEqual(last_answered((DISINFECT, 99), (PATH,)), [0] + [1000] * 6 + [1980, 0])
        self.assertEqual(last_answered((DISINFECT, 100), (PATH,)), [0] + [1000] * 6 + [2000, 0])
        self.assertEqual(last_answered((DISINFECT, 100), (DISINFECT, 1), (PATH,)), [0] + [1000] * 6 + [2000, 0])

    def test_a_move_lets_it_flow_and_good_stays(self):
        device = primed_device()
        device.path.cells = [1, 2, 3, 4, 5, 6]
        device.path.wall = 9
        device.good = 2
        call(device, PRIME, 1, 2)
        self.assertEqual(call(device, PATH), [0, 2, 1, 2, 3, 4, 5, 7, 2])


class TotalsTest(MachineTest):
    def test_each_number_has_its_place(self):
        device = Device()
        totals = device.totals
        totals.from_patient = (1, 2, 3)
        totals.from_bags = 4
        totals.air_in = 5
        totals.given_back = (6, 7, 8)
        totals.spilt = (9, 10, 11)
        totals.drained = (12, 13, 14)
        totals.thrown_away = (15, 16, 17)
        totals.taken = 18
        totals.vented = 19
        totals.moves = 20
        totals.lines = 21
        self.assertEqual(call(device, TOTALS), list(range(22)))

    def counted(self, *rows, **others):
        """Beyond what is told of a new object, just these were counted."""
        expected = list(NEW[5])
        for name, value in others.items():
            expected[int(name[1:])] += value
        self.assertEqual(last_answered(*rows, (TOTALS,)), expected)

    def test_nothing_is_counted_of_calls_that_move_nothing(self):
        self.counted((BAG, 5), (HEM, 5), (FAULT, 0, 1, 5), (SLIP, 1, 1), (PRESS, 0, 0), (CENTRE,), (LEAK, 1000),
                     (WAIT, 5), (VENT,), (FAIL,), (BACK, 5), (DISINFECT, 5), (RINSE, 100))

    def test_a_laid_line(self):
        self.counted((TEST,), (LAY,), n5=16000, n17=16000, n21=1)
        # the power fails ahead of the laying, and behind it
        self.counted((TEST,), (ARM, 0), (LAY,))
        self.counted((TEST,), (ARM, 1), (LAY,), n5=16000, n17=16000, n21=1)
        self.counted((TEST,), (ARM, 1), (LAY,), (BACK, 0), (LAY,), n5=32000, n17=32000, n21=2)

    def test_bags_air_and_the_drain(self):
        laid = ((TEST,), (LAY,))
        self.counted(*laid, (PRIME, 1, 2), n5=16000, n17=16000, n20=1, n21=1)
        self.counted(*laid, (PRIME, 1, 0), n5=17000, n14=1000, n17=16000, n20=1, n21=1)
        self.counted(*laid, (BAG, 1300), (PRIME, 2, 0), n4=1300, n5=16700, n14=2000, n17=16000, n20=2, n21=1)
        self.counted(*laid, (BAG, 60000), (PRIME, 20, 0), n4=20000, n5=16000, n13=4000, n14=8000, n17=16000, n20=20,
                     n21=1)

    def test_the_vent_and_a_line_with_air_in_its_trap(self):
        way = ((TEST,), (LAY,), (PRIME, 3, 2))
        self.counted(*way, (VENT,), n5=16000, n17=16000, n19=3000, n20=3, n21=1)
        self.counted(*way, (VENT,), (VENT,), n5=16000, n17=16000, n19=3000, n20=3, n21=1)
        # ... to phase 1 again, with 3000 in the trap and 13000 in the cells
        again = way + ((DONE,), (DISINFECT, 1), (RINSE, 100), (13,), (TEST,))
        self.counted(*again, n5=16000, n17=16000, n20=3, n21=1)
        self.counted(*again, (LAY,), n5=32000, n17=29000, n19=3000, n20=3, n21=2)
        self.counted(*again, (VENT,), (LAY,), n5=32000, n17=29000, n19=3000, n20=3, n21=2)

    def test_the_patient(self):
        primed = {"n4": 20000, "n5": 16000, "n13": 4000, "n14": 8000, "n17": 16000, "n21": 1}
        self.counted(*JOINED, **primed, n20=20)
        self.counted(*JOINED, (RUN, 1), **primed, n1=300, n2=700, n7=1000, n20=21)
        self.counted(*JOINED, (RUN, 17), **primed, n1=5100, n2=11900, n6=300, n7=16700, n20=37)
        self.counted(*JOINED, (SLIP, 1, 1), (RUN, 17), **primed, n1=5100, n2=11900, n9=300, n10=16700, n20=37)
        primed["n5"] += 2000
        self.counted(*JOINED, (SLIP, 0, 1), (RUN, 2), **primed, n7=2000, n20=22)

    def test_water_that_is_taken(self):
        # 50 a second in strokes of 7; the fifth second of blood is the first at the dialyser
        self.assertEqual(last_answered(*JOINED, (TAKING, 1), (RUN, 1), (TOTALS,))[18], 49)
        self.assertEqual(last_answered(*JOINED, (TAKING, 1), (RUN, 4), (TOTALS,))[18], 196)
        given = answered(*JOINED, (TAKING, 1), (RUN, 20), (TOTALS,), (LOOK,))
        self.assertEqual((given[-2][18], given[-1][15]), (504, 504))

    def test_blood_in_the_drain_and_in_a_line_that_is_thrown_away(self):
        way = JOINED + ((RUN, 2), (LEAVE,), (DONE,), (DISINFECT, 1), (RINSE, 100), (13,), (TEST,), (LAY,))
        self.assertEqual(last_answered(*way, (TOTALS,))[15:18], [600, 15400, 16000])
        device = joined_device(taking=0, haematocrit=300)
        call(device, RUN, 2)
        call(device, LEAVE)
        keep(device, 2)
        before = call(device, TOTALS)
        call(device, PRIME, 15, 0)
        self.assertEqual([after - old for after, old in zip(call(device, TOTALS), before)],
                         [0, 0, 0, 0, 15000, 0, 0, 0, 0, 0, 0, 0, 300, 14700, 0, 0, 0, 0, 0, 0, 15, 0])

"""A whole way through the phases, and what must be true over every sequence of calls."""

import random

from bloodmachine.device import Device
from bloodmachine.machine import answers
from helper import (
    ARM, BEGIN, CLEAR, DISARM, DISINFECT, DONE, FAIL, FINISH, JOIN, LAY, LEAVE, PRIME, REPLAN, RINSE, RUN,
    TAKING, TEST, MachineTest, call, kept, state,
)


class WholeWayTest(MachineTest):
    def test_a_patient_and_the_cleaning_behind_it(self):
        device = Device()
        self.assertEqual(call(device, TEST), [0, 0])
        self.assertEqual(call(device, LAY), [0])
        device.line.bag = 5000000
        device.line.haematocrit = 300
        self.assertEqual(call(device, PRIME, 20, 0), [0, 1, 5])
        self.assertEqual(call(device, PRIME, 20, 2), [0, 1, 5])
        self.assertEqual(call(device, BEGIN, 1000, 0, 5, plan=[10, 1, 1800000]), [-4])
        device.guard.latches = 0
        self.assertEqual(call(device, BEGIN, 1000, 0, 5, plan=[10, 1, 1800000]), [0])
        self.assertEqual(call(device, RUN, 2), [0, 2, 0, 0])
        self.assertEqual(call(device, JOIN), [0])
        device.guard.centre = (0, 100)
        self.assertEqual(call(device, TAKING, 1), [0])
        self.assertEqual(call(device, RUN, 4), [0, 4, 0, 400, 0, 0, 0, 0])
        self.assertEqual(call(device, REPLAN, 500, 1, plan=[4, 1, 1800000]), [0])
        self.assertEqual(call(device, RUN, 20), [0, 20, 0, 500] + [0] * 20)
        self.assertEqual(device.session_took, 500)
        self.assertEqual(device.line.cells[0], (300, 700, 0))
        self.assertEqual(call(device, DONE), [-4])
        self.assertEqual(call(device, FINISH), [0, 500, 500, 100, 4])
        self.assertEqual(call(device, TAKING, 1), [-3])
        self.assertEqual(call(device, RUN, 16), [0, 16, 0, 500] + [0] * 16)
        self.assertEqual(device.line.cells, [(0, 1000, 0)] * 16)
        self.assertEqual(call(device, LEAVE), [0])
        self.assertEqual(call(device, DONE), [0])
        self.assertEqual(call(device, TEST), [-3])
        self.assertEqual(call(device, DISINFECT, 10), [0])
        self.assertEqual(call(device, RINSE, 10), [0, 0])
        self.assertEqual(call(device, CLEAR), [-4])
        self.assertEqual(call(device, RINSE, 50), [0, 6])
        self.assertEqual(call(device, CLEAR), [0])
        self.assertEqual(call(device, TEST), [0, 0])
        self.assertEqual(call(device, LAY), [0])
        self.assertEqual(kept(device)[0], 2)
        # what came from the patient went back to it, but for what was taken
        totals = device.totals
        self.assertEqual(totals.from_patient, (24 * 300, 24 * 700, 0))
        self.assertEqual(totals.given_back, (24 * 300, 40000 - 24 * 300 - 500, 0))
        self.assertEqual((totals.taken, totals.lines, totals.thrown_away), (500, 3, (0, 16000, 16000)))

    def test_the_way_that_needs_no_later_call(self):
        self.assertEqual(
            answers([TEST, LAY, PRIME, 11, 0, BEGIN, 1, 0, 1, 3, 1, 1, 1, JOIN, RUN, 1, FINISH, DONE,
                     DISINFECT, 1, RINSE, 100, CLEAR, TEST, LAY, PRIME, 1, 2]),
            [2, 0, 0, 1, 0, 3, 0, 1, 5, 1, -4, 1, -3, 1, -3, 1, -3, 1, 0,
             1, 0, 2, 0, 6, 1, 0, 2, 0, 0, 1, 0, 3, 0, 1, 0])

    def test_the_greatest_run_of_calls(self):
        device = Device()
        call(device, TEST)
        call(device, LAY)
        device.line.bag = 5000000
        call(device, PRIME, 100, 0)
        device.guard.latches = 0
        call(device, BEGIN, 100000000, 1, 500, plan=[1800, 1000, 1800000] * 16)
        call(device, JOIN)
        device.guard.centre = (0, 100)
        call(device, TAKING, 1)
        for calls in range(288):
            self.assertEqual(call(device, RUN, 100)[:3], [0, 100, 0])
        # 500 a second is the greatest room of all, and less than this goal asks for
        self.assertEqual(call(device, RUN, 1), [0, 1, 0, 14400000, 0])
        self.assertEqual(device.session_took, 14400000)


def random_plan(source):
    return [number for piece in range(source.randint(1, 4)) for number in (
        source.randint(1, 30), source.randint(0, 5), source.choice((0, 3599, 36000, 360000, 1800000)))]


def random_call(source, phase):
    """Two calls of three carry the machine on, so that every phase is reached again and again."""
    k = source.choice((1, 2, 5, 30, 100))
    begin = (BEGIN, source.randint(0, 5000), source.randint(0, 1), source.choice((1, 7, 500)))
    replan = (REPLAN, source.randint(0, 9000), source.randint(0, 1))
    onward = (
        [(TEST,)], [(LAY,)], [(PRIME, 100, 0), (PRIME, k, 2), begin], [(JOIN,), (TAKING, 1), (RUN, k), (RUN, k), replan],
        [(JOIN,), (RUN, k), (LEAVE,), (DONE,)], [(DISINFECT, k)], [(RINSE, 100)], [(RINSE, k), (CLEAR,)])[phase]
    if source.randint(0, 2) > 0:
        return source.choice(onward)
    return source.choice((
        (TEST,), (LAY,), (PRIME, k, 0), (JOIN,), (LEAVE,), (TAKING, 1), (TAKING, 0), (RUN, k), (FINISH,), (DONE,),
        (DISINFECT, k), (RINSE, k), (CLEAR,), (ARM, source.randint(0, 3)), (ARM, source.randint(0, 60)),
        (DISARM,), (FAIL,), begin, replan))


def shake(source, device):
    """What happens around the machine, by hand: later calls will do this."""
    line = device.line
    event = source.randint(0, 9)
    if event == 0:
        line.bag = source.choice((0, 1500, 60000, 5000000))
    elif event == 1:
        line.haematocrit = source.choice((0, 300, 450, 690))
    elif event == 2:
        line.slipped = [source.randint(0, 9) == 0, source.randint(0, 9) == 0]
    elif event <= 5 and device.guard.clean == 5:
        device.guard.latches = 0
    elif event == 6:
        device.guard.centre = (0, 100)
    elif event == 7:
        line.trapped, vented = 0, line.trapped
        device.totals.vented += vented
    device.power = True


class TruthTest(MachineTest):
    def balance(self, device):
        line = device.line
        totals = device.totals
        out = [totals.given_back, totals.spilt, totals.drained, totals.thrown_away] + line.cells
        red, water, air = (sum(amounts[part] for amounts in out) for part in range(3))
        self.assertEqual(totals.from_patient[0], red)
        self.assertEqual(totals.from_patient[1] + totals.from_bags, water + totals.taken)
        self.assertEqual(totals.from_patient[2] + totals.air_in, air + totals.vented + line.trapped)
        for cell in line.cells:
            self.assertTrue(min(cell) >= 0 and sum(cell) <= 1000)

    def truths(self, device, answer, place):
        record = device.kept().record
        if record.on:
            self.assertLessEqual(device.session_took, record.counted)
            self.assertLessEqual(record.counted, record.goal)
        if device.joined():
            self.assertLess(max(device.path.cells), 5)
        if place == RUN and answer[0] >= 0:
            airs = answer[4:]
            for i in range(len(airs)):
                self.assertLess(airs[i], 200)
                self.assertLess(sum(airs[i:i + 4]), 400)

    def test_over_many_sequences(self):
        reached = {}
        for seed in range(200):
            source = random.Random(seed)
            device = Device()
            for step in range(150):
                shake(source, device)
                row = random_call(source, kept(device)[0])
                plan = random_plan(source) if row[0] in (BEGIN, REPLAN) else None
                before = state(device)
                answer = call(device, *row, plan=plan)
                if answer[0] < 0:
                    self.assertEqual(len(answer), 1)
                    self.assertEqual(state(device), before)
                reached[row[0], answer[0]] = True
                self.balance(device)
                self.truths(device, answer, row[0])
        for place in range(17):
            self.assertIn((place, 0), reached)
        for place in (TEST, LAY, PRIME, BEGIN, REPLAN, RUN, FINISH, DONE, DISINFECT, RINSE, CLEAR):
            self.assertIn((place, 1), reached)

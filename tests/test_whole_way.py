"""A whole way through the phases, and what must be true over every sequence of calls."""

import random

from bloodmachine.device import Device
from bloodmachine.machine import answers
from helper import (
    ARM, BACK, BAG, BEGIN, CELL, CENTRE, CHECK, CLEAR, DISARM, DISINFECT, DONE, FAIL, FAULT, FINISH, GUARD, HEM, JOIN,
    LAY, LEAK, LEAVE, LOOK, PATH, PRESS, PRIME, REPLAN, RESET, RINSE, RUN, SLIP, TAKING, TEST, TOTALS, VENT, WAIT,
    MachineTest, answered, call, kept, state,
)

# Each call, and what it must answer.
TO_THE_PATIENT = (
    ((LOOK,), [0, 1, -1, 0, 0, 0, 0, 0, 0, 1, 0, 0, 0, 0, 0, 0]),
    ((BAG, 60000), [0]),
    ((HEM, 300), [0]),
    ((TEST,), [0, 0]),
    ((LAY,), [0]),
    ((PRIME, 10, 0), [0, 1, 4]),
    ((RESET, 0), [-4]),
    ((PRIME, 10, 0), [0, 1, 5]),
    ((CELL, 15), [0, 0, 1000, 0]),
    ((VENT,), [0, 8000]),
    ((PRIME, 5, 2), [0, 1, 5]),
    ((BEGIN, 1000, 0, 5, [10, 1, 1800000]), [-4]),
    ((RESET, 0), [0]),
    ((GUARD,), [0, 5, 4, 0, 0, 0, 0, 0, 0, 1, 300, 40000, 2]),
    ((BEGIN, 1000, 0, 5, [10, 1, 1800000]), [0]),
    ((RUN, 2), [0, 2, 0, 0]),
    ((JOIN,), [0]),
    ((CENTRE,), [-3]),
    ((PRESS, -50, 120), [0]),
    ((CENTRE,), [0]),
    ((TAKING, 1), [0]),
    ((RUN, 4), [0, 4, 0, 400, 0, 0, 0, 0]),
    ((LOOK,), [0, 1, -1, 3, 1, 1, 1, 1000, 0, 5, 10, 0, 4, 400, 80, 400]),
    ((TOTALS,), [0, 1200, 2800, 0, 20000, 32000, 0, 4000, 0, 0, 0, 0, 0, 4000, 8000, 0, 0, 16000, 400, 8000, 31, 2]),
)
# The power fails between what is counted and what is taken; blood stands in the line.
A_FAILING = (
    ((WAIT, 100), [0]),
    ((ARM, 5), [0]),
    ((RUN, 10), [1, 1, 0, 600, 0]),
    ((LOOK,), [0, 0, -1, 3, 0, 0, 1, 1000, 0, 5, 10, 0, 6, 600, 120, 500]),
    ((GUARD,), [0, 0, 0, 0, 0, 0, 0, 0, 0, 2, 300, 40000, 2]),
    ((CELL, 0), [0, 300, 700, 0]),
    ((PATH,), [0] * 9),
    ((RUN, 1), [-2]),
    ((WAIT, 1), [-2]),
    ((WAIT, 0), [-1]),
    ((BACK, 100), [0, 3, 0, 600]),
    ((JOIN,), [-6]),
    ((RUN, 4), [0, 4, 0, 600]),
    ((JOIN,), [-6]),
    ((RUN, 1), [0, 1, 0, 600]),
    ((JOIN,), [0]),
    ((PRESS, -50, 120), [0]),
    ((PRESS, -301, 120), [8]),
    ((RUN, 1), [-4]),
    ((RESET, 3), [-4]),
    ((PRESS, -40, 125), [8]),
    ((RESET, 3), [0]),
    ((CENTRE,), [0]),
    ((TAKING, 1), [0]),
    ((REPLAN, 700, 1, [4, 1, 1800000]), [0]),
    ((RUN, 20), [0, 20, 0, 700] + [0] * 20),
    ((LOOK,), [0, 1, -1, 3, 1, 1, 1, 700, 1, 5, 4, 600, 4, 700, 140, 600]),
)
TO_THE_NEXT_ONE = (
    ((DONE,), [-4]),
    ((FINISH,), [0, 700, 700, 140, 4]),
    ((TAKING, 1), [-3]),
    ((RUN, 16), [0, 16, 0, 700] + [0] * 16),
    ((WAIT, 3600), [0]),
    ((LEAVE,), [0]),
    ((DONE,), [0]),
    ((TOTALS,), [0, 7500, 17500, 0, 36000, 32000, 7500, 32900, 0, 0, 0, 0, 0, 4000, 8000, 0, 0, 16000, 600, 8000, 73,
                 2]),
    ((TEST,), [-3]),
    ((DISINFECT, 10), [0]),
    ((PATH,), [0] + [1000] * 6 + [200, 0]),
    ((RINSE, 10), [0, 0]),
    ((CLEAR,), [-4]),
    ((RINSE, 50), [0, 6]),
    ((PATH,), [0] * 8 + [6]),
    ((CLEAR,), [0]),
    ((LOOK,), [0, 1, -1, 0, 0, 0, 0, 700, 1, 5, 4, 600, 4, 700, 140, 600]),
    ((TEST,), [0, 0]),
    ((LAY,), [0]),
    ((GUARD,), [0, 0, 0, 0, 0, 0, 0, 0, 0, 1, 300, 24000, 0]),
    ((TOTALS,), [0, 7500, 17500, 0, 36000, 48000, 7500, 32900, 0, 0, 0, 0, 0, 4000, 8000, 0, 16000, 16000, 600, 8000,
                 73, 3]),
)


class WholeWayTest(MachineTest):
    def way(self, steps):
        given = answered(*[row for row, answer in steps])
        for i, step in enumerate(steps):
            self.assertEqual(given[i], step[1], f"call {i}: {step[0]}")
        # these functions keep nothing from one time to the next
        self.assertEqual(answered(*[row for row, answer in steps]), given)

    def test_a_patient_and_the_cleaning_behind_it(self):
        self.way(TO_THE_PATIENT + A_FAILING + TO_THE_NEXT_ONE)

    def test_the_way_that_is_refused_at_a_latch(self):
        self.assertEqual(
            answers([TEST, LAY, PRIME, 11, 0, BEGIN, 1, 0, 1, 3, 1, 1, 1, JOIN, RUN, 1, FINISH, DONE,
                     DISINFECT, 1, RINSE, 100, CLEAR, TEST, LAY, PRIME, 1, 2]),
            [2, 0, 0, 1, 0, 3, 0, 1, 5, 1, -4, 1, -3, 1, -3, 1, -3, 1, 0,
             1, 0, 2, 0, 6, 1, 0, 2, 0, 0, 1, 0, 3, 0, 1, 0])

    def test_blood_that_stood_too_long_goes_to_no_patient(self):
        self.way(TO_THE_PATIENT + (
            ((FAIL,), [0]),
            ((BACK, 121), [0, 3, 128, 400]),
            ((RUN, 5), [0, 5, 128, 400]),
            ((JOIN,), [-5]),
            ((RESET, 7), [-4]),
            ((FINISH,), [0, 1000, 400, 80, 4]),
            ((JOIN,), [-5]),
            ((DONE,), [0]),
            ((DISINFECT, 1), [0]),
            ((RINSE, 50), [0, 6]),
            ((CLEAR,), [0]),
            ((TEST,), [0, 0]),
            ((GUARD,), [128, 5, 4, 0, 0, 0, 0, 0, 0, 1, 300, 40000, 2]),
            ((LAY,), [0]),
            ((GUARD,), [0, 0, 0, 0, 0, 0, 0, 0, 0, 1, 300, 40000, 0]),
        ))

    def test_the_greatest_run_of_calls(self):
        way = [(TEST,), (LAY,), (BAG, 5000000), (HEM, 300), (PRIME, 100, 0), (RESET, 0),
               (BEGIN, 100000000, 1, 500, [1800, 1000, 1800000] * 16), (JOIN,), (PRESS, 0, 100), (CENTRE,), (TAKING, 1)]
        given = answered(*way, *[(RUN, 100)] * 288, (RUN, 1), *[(LOOK,)] * 100)
        for answer in given[len(way):len(way) + 288]:
            self.assertEqual((len(answer), answer[:3]), (104, [0, 100, 0]))
        # 500 a second is the greatest room of all, and less than this goal asks for
        self.assertEqual(given[len(way) + 288], [0, 1, 0, 14400000, 0])
        self.assertEqual(
            given[-1], [0, 1, -1, 3, 1, 1, 1, 100000000, 1, 500, 28800, 0, 28800, 14400000, 28800, 14400000])


def random_plan(source):
    return [number for piece in range(source.randint(1, 4)) for number in (
        source.randint(1, 30), source.randint(0, 5), source.choice((0, 3599, 36000, 360000, 1800000)))]


def begin_row(source):
    return (BEGIN, source.randint(0, 5000), source.randint(0, 1), source.choice((1, 7, 500)))


def replan_row(source):
    return (REPLAN, source.choice((0, 10, 500, 4000, 9000)), source.randint(0, 1))


def onward(source, phase):
    """Calls that carry the machine on, so that every phase is reached again and again."""
    k = source.choice((1, 2, 5, 30, 100))
    begin = begin_row(source)
    replan = replan_row(source)
    centre = [(PRESS, 0, 100), (CENTRE,), (RESET, source.randint(0, 7))]
    rows = (
        [(TEST,), (FAULT, 0, 0, 0), (FAULT, 1, 0, 0)], [(LAY,)],
        [(BAG, 200000), (PRIME, 30, 0), (PRIME, k, 2), begin, (RESET, 0)],
        [(JOIN,), (JOIN,), (TAKING, 1), (RUN, 5), (RUN, k), replan, (FINISH,)] + centre,
        [(JOIN,), (RUN, k), (LEAVE,), (DONE,)] + centre, [(DISINFECT, k)], [(RINSE, 100)], [(RINSE, k), (CLEAR,)])
    return source.choice(rows[phase])


def anything(source, channels):
    k = source.choice((1, 2, 5, 30, 100))
    return source.choice((
        (TEST,), (LAY,), (PRIME, k, 0), (JOIN,), (LEAVE,), (TAKING, 1), (TAKING, 0), (RUN, k), (FINISH,), (DONE,),
        (DISINFECT, k), (RINSE, k), (CLEAR,), (ARM, source.randint(0, 3)), (ARM, source.randint(0, 60)),
        (DISARM,), (FAIL,), (BACK, 1), (BAG, source.choice((0, 1500, 60000))), (HEM, source.choice((0, 300, 450, 720))),
        (FAULT, source.randrange(channels), source.randint(0, 1), source.choice((0, 40, 60, 500))),
        (SLIP, source.randint(0, 1), source.choice((0, 0, 0, 1))), (SLIP, 0, 0), (SLIP, 1, 0),
        (PRESS, source.choice((-300, -50, 0, 70, 120)), source.choice((5, 10, 100, 150, 420))), (CENTRE,),
        (LEAK, source.choice((0, 999, 1000, 5000))), (WAIT, source.choice((1, 60, 130))), (VENT,), (CHECK,),
        (RESET, source.randint(0, 7)), (LOOK,), (GUARD,), (CELL, 4), (PATH,), (TOTALS,),
        begin_row(source), replan_row(source)))


class TruthTest(MachineTest):
    def balance(self, device):
        totals = call(device, TOTALS)
        cells = [call(device, CELL, i)[1:] for i in range(16)]
        red, water, air = [sum([totals[i + part] for i in (6, 9, 12, 15)] + [cell[part] for cell in cells])
                           for part in range(3)]
        self.assertEqual(totals[1], red)
        self.assertEqual(totals[2] + totals[4], water + totals[18])
        self.assertEqual(totals[3] + totals[5], air + totals[19] + call(device, GUARD)[8])
        for cell in cells:
            self.assertTrue(min(cell) >= 0 and sum(cell) <= 1000)

    def truths(self, device, answer, place):
        look = call(device, LOOK)
        on, goal, counted, took = look[6], look[7], look[13], look[15]
        if on:
            self.assertLessEqual(took, counted)
            self.assertLessEqual(counted, goal)
        if look[4]:
            self.assertLess(max(call(device, PATH)[1:7]), 5)
        guard = call(device, GUARD)
        for number, most in zip(guard, (255, 5, 4, 4000, 2, 3, 10, 1000000, 20000, 2, 1000, 5000000, 2)):
            self.assertTrue(0 <= number <= most)

    def no_air(self, airs):
        for i in range(len(airs)):
            self.assertLess(airs[i], 200)
            self.assertLess(sum(airs[i:i + 4]), 400)

    def one_sequence(self, seed, channels, reached):
        source = random.Random(seed)
        device = Device()
        rows = []
        given = []
        for step in range(150):
            if not device.power and source.randint(0, 2) > 0:
                row = (BACK, source.choice((0, 30, 121)))
            else:
                row = onward(source, kept(device)[0]) if source.randint(0, 9) > 3 else anything(source, channels)
            plan = random_plan(source) if row[0] in (BEGIN, REPLAN) else None
            before = state(device)
            answer = call(device, *row, plan=plan)
            if answer[0] < 0:
                self.assertEqual(len(answer), 1)
                self.assertEqual(state(device), before)
            rows.append(row if plan is None else row + (plan,))
            given.append(answer)
            reached[row[0], answer[0]] = True
            self.balance(device)
            self.truths(device, answer, row[0])
            # what no channel sees can't be told, so one of them is true where this is asked
            if row[0] == RUN and answer[0] >= 0 and channels == 1:
                self.no_air(answer[4:])
        self.assertEqual(answered(*rows), given)

    def test_over_many_sequences(self):
        reached = {}
        for seed in range(200):
            self.one_sequence(seed, 1 + seed % 2, reached)
        for place in range(34):
            self.assertIn((place, 0), reached)
        for place in (TEST, LAY, PRIME, BEGIN, REPLAN, RUN, FINISH, DONE, DISINFECT, RINSE, CLEAR):
            self.assertIn((place, 1), reached)
        for place, refusals in ((BEGIN, (-3, -4, -5, -6)), (REPLAN, (-3, -4, -5)), (JOIN, (-3, -4, -5, -6)),
                                (RUN, (-3, -4)), (DONE, (-3, -4)), (CLEAR, (-3, -4)), (BACK, (-3,)),
                                (CENTRE, (-2, -3, -4)), (RESET, (-2, -3, -4)), (PRESS, (-2, 8, 16, 24)),
                                (LEAK, (-2, 4)), (WAIT, (-2, 128)), (CHECK, (-2, 1, 2))):
            self.assertEqual([refusal for refusal in refusals if (place, refusal) not in reached], [], place)

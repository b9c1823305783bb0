"""answers(calls): how calls stand in the list, and the refusals -100, -1 and -2."""

from bloodmachine.device import Device
from bloodmachine.machine import answers
from helper import (
    ARM, BACK, BAG, BEGIN, CELL, CENTRE, CHECK, CLEAR, DISARM, DISINFECT, FAIL, FAULT, GREATEST, GUARD, HEM, JOIN,
    LAY, LEAK, LEAST, LOOK, PATH, PLAN, PRESS, PRIME, REPLAN, RESET, RINSE, RUN, SLIP, TAKING, TEST, TOTALS, VENT,
    WAIT, MachineTest, call, state,
)

# place, arguments that are allowed, which of them is meant, its least, its greatest
EDGES = (
    (PRIME, (1, 0), 0, 1, 100),
    (PRIME, (1, 0), 1, 0, 2),
    (BEGIN, (0, 0, 1), 0, 0, 100000000),
    (BEGIN, (0, 0, 1), 1, 0, 1),
    (BEGIN, (0, 0, 1), 2, 1, 500),
    (REPLAN, (0, 0), 0, 0, 100000000),
    (REPLAN, (0, 0), 1, 0, 1),
    (TAKING, (0,), 0, 0, 1),
    (RUN, (1,), 0, 1, 100),
    (DISINFECT, (1,), 0, 1, 100),
    (RINSE, (1,), 0, 1, 100),
    (ARM, (0,), 0, 0, 1000000),
    (BACK, (0,), 0, 0, 100000),
    (BAG, (0,), 0, 0, 5000000),
    (HEM, (0,), 0, 0, 1000),
    (FAULT, (0, 0, 0), 0, 0, 1),
    (FAULT, (0, 0, 0), 1, 0, 1),
    (FAULT, (0, 0, 0), 2, 0, 1000),
    (FAULT, (1, 1, 1000), 2, 0, 1000),
    (SLIP, (0, 0), 0, 0, 1),
    (SLIP, (0, 0), 1, 0, 1),
    (PRESS, (0, 0), 0, -1000, 1000),
    (PRESS, (0, 0), 1, -1000, 1000),
    (LEAK, (0,), 0, 0, 1000000),
    (WAIT, (1,), 0, 1, 3600),
    (RESET, (0,), 0, 0, 7),
    (CELL, (0,), 0, 0, 15),
)
ANSWERED_WITHOUT_POWER = (BACK, LOOK, GUARD, CELL, PATH, TOTALS)
ALL_ALLOWED = {place: numbers for place, numbers, index, least, greatest in EDGES}


def plan_for(place):
    return PLAN if place in (BEGIN, REPLAN) else None


def with_argument(numbers, index, value):
    return numbers[:index] + (value,) + numbers[index + 1:]


class AnswersTest(MachineTest):
    def test_each_answer_stands_behind_its_count(self):
        self.assertEqual(answers([TEST]), [2, 0, 0])
        self.assertEqual(answers([LAY]), [1, -3])
        self.assertEqual(
            answers([TEST, LAY, PRIME, 1, 0, RUN, 1, DISINFECT, 5]),
            [2, 0, 0, 1, 0, 3, 0, 1, 0, 1, -3, 1, -3])

    def test_plans_stand_behind_how_many_numbers_they_have(self):
        self.assertEqual(
            answers([BEGIN, 1, 0, 1, 3, 5, 1, 7, TEST, REPLAN, 1, 0, 6, 5, 1, 7, 5, 1, 7, LAY]),
            [1, -3, 2, 0, 0, 1, -3, 1, 0])

    def test_a_plans_numbers_are_never_read_as_calls(self):
        self.assertEqual(answers([BEGIN, 1, 0, 1, 0, TEST]), [1, -1, 2, 0, 0])
        self.assertEqual(answers([BEGIN, 1, 0, 1, 1, TEST, LAY]), [1, -100, 1, -3])
        self.assertEqual(answers([REPLAN, 1, 0, 2, TEST, TEST, LAY]), [1, -100, 1, -3])

    def test_each_call_stands_with_just_its_arguments(self):
        counts = {0: 0, 1: 0, 2: 2, 5: 0, 6: 0, 7: 1, 8: 1, 9: 0, 10: 0, 11: 1, 12: 1, 13: 0, 14: 1, 15: 0,
                  17: 1, 18: 1, 19: 1, 20: 3, 21: 2, 22: 2, 23: 0, 24: 1, 25: 1, 26: 0, 27: 0, 28: 1,
                  29: 0, 30: 0, 31: 1, 32: 0, 33: 0}
        for place, count in counts.items():
            with self.subTest(place=place):
                given = answers([place] + [GREATEST] * count + [BAG, 7, LAY])
                if count > 0:
                    self.assertEqual(given, [1, -1, 1, 0, 1, -3])
                else:
                    self.assertEqual(len(given), given[0] + 5)
                    self.assertNotIn(-100, given)

    def test_no_call_is_unknown(self):
        for place in range(34):
            numbers = ALL_ALLOWED.get(place, ())
            given = call(Device(), place, *numbers, plan=plan_for(place))
            self.assertNotIn(given, ([-100], [-1], [-2]), place)

    def test_how_many_numbers_each_answers(self):
        # on a new object; one number alone is a refusal or what the call tells
        counts = {TEST: 2, DISINFECT: 1, ARM: 1, DISARM: 1, FAIL: 1, BAG: 1, HEM: 1, FAULT: 1, SLIP: 1, PRESS: 1,
                  LEAK: 1, WAIT: 1, VENT: 2, CHECK: 1, LOOK: 16, GUARD: 13, CELL: 4, PATH: 9, TOTALS: 22}
        for place, count in counts.items():
            given = answers([place] + list(ALL_ALLOWED.get(place, ())))
            self.assertEqual((given[0], len(given) - 1), (count, count), place)
            self.assertEqual(given[1], 0, place)

    def test_what_is_handed_in_stays_and_a_second_use_answers_the_same(self):
        calls = [TEST, LAY, PRIME, 100, 0, BEGIN, 5, 1, 3, 6, 10, 1, 3600, 5, 0, 0, ARM, 3,
                 PRIME, 5, 2, FAIL, JOIN]
        before = list(calls)
        first = answers(calls)
        self.assertEqual(calls, before)
        self.assertEqual(answers(calls), first)
        self.assertEqual(calls, before)
        self.assertEqual(first, [2, 0, 0, 1, 0, 3, 0, 1, 0, 1, -4, 1, 0, 1, 1, 1, -2, 1, -2])

    def test_answers_are_plain_whole_numbers_in_a_list(self):
        given = answers([TEST, LAY, PRIME, 3, 2, ARM, 1, PRIME, 2, 0])
        self.assertIs(type(given), list)
        self.assertEqual({type(number) for number in given}, {int})

    def test_four_hundred_calls(self):
        calls = [TEST, LAY] + [PRIME, 100, 2] * 398
        given = answers(calls)
        self.assertEqual(len(given), 3 + 2 + 398 * 4)
        self.assertEqual(given[-4], 3)


class FormTest(MachineTest):
    def test_rows_of_other_forms(self):
        device = Device()
        for place in (-1, 34, 35, LEAST, GREATEST):
            self.refused(device, -100, place)
        self.refused(device, -100, TEST, 0)
        self.refused(device, -100, PRIME, 1)
        self.refused(device, -100, BACK)
        self.refused(device, -100, FAULT, 0, 0)
        self.refused(device, -100, PRESS, 0, 0, 0)
        self.refused(device, -100, CENTRE, 0)
        self.refused(device, -100, CELL)
        self.refused(device, -100, TOTALS, 0)
        self.refused(device, -100, LOOK, plan=PLAN)
        self.refused(device, -100, PRIME, 1, 0, 0)
        self.refused(device, -100, RUN)
        self.refused(device, -100, BEGIN, 1, 0, 1)
        self.refused(device, -100, BEGIN, 1, 0, plan=PLAN)
        self.refused(device, -100, REPLAN, 1, 0, 1, plan=PLAN)
        self.refused(device, -100, JOIN, plan=PLAN)

    def test_a_plan_whose_numbers_are_no_multiple_of_three(self):
        for count in (1, 2, 4, 5, 49, 50, 52, 193, 194):
            with self.subTest(count=count):
                self.assertEqual(answers([BEGIN, 0, 0, 1, count] + [1] * count + [TEST]), [1, -100, 2, 0, 0])
                self.assertEqual(answers([REPLAN, 0, 0, count] + [1] * count + [TEST]), [1, -100, 2, 0, 0])
        self.assertEqual(answers([REPLAN, 0, 0, 196] + [1] * 196), [1, -100])

    def test_the_form_is_looked_at_first_of_all(self):
        device = Device()
        self.refused(device, -100, BEGIN, -1, 0, 1, plan=[1, 1])
        call(device, FAIL)
        self.refused(device, -100, BEGIN, -1, 0, 1, plan=[1, 1])
        self.refused(device, -100, REPLAN, -1, 0, plan=[1, 1])
        self.refused(device, -100, 99)


class RangeTest(MachineTest):
    def test_the_edges_of_each_argument(self):
        for place, numbers, index, least, greatest in EDGES:
            for value in (least, greatest):
                with self.subTest(place=place, index=index, value=value):
                    given = call(Device(), place, *with_argument(numbers, index, value), plan=plan_for(place))
                    self.assertNotIn(given, ([-1], [-100]))
            for value in (least - 1, greatest + 1, LEAST, GREATEST):
                with self.subTest(place=place, index=index, value=value):
                    self.refused(Device(), -1, place, *with_argument(numbers, index, value), plan=plan_for(place))

    def test_prime_leads_to_no_patient(self):
        self.refused(Device(), -1, PRIME, 1, 1)

    def test_an_argument_is_looked_at_ahead_of_power_and_phase(self):
        for place, numbers, index, least, greatest in EDGES:
            device = Device()
            call(device, FAIL)
            self.refused(device, -1, place, *with_argument(numbers, index, greatest + 1), plan=plan_for(place))

    def test_edges_through_answers(self):
        self.assertEqual(answers([PRIME, LEAST, 0, PRIME, 1, GREATEST, RUN, GREATEST, ARM, LEAST]),
                         [1, -1, 1, -1, 1, -1, 1, -1])


class PlanRangeTest(MachineTest):
    def plan_answers(self, plan, answer):
        count = [len(plan)]
        self.assertEqual(answers([BEGIN, 0, 0, 1] + count + plan), [1, answer])
        self.assertEqual(answers([REPLAN, 0, 0] + count + plan), [1, answer])

    def test_how_many_pieces(self):
        self.plan_answers([1, 1, 1], -3)
        self.plan_answers([1, 1, 1] * 16, -3)
        self.plan_answers([], -1)
        self.plan_answers([1, 1, 1] * 17, -1)
        self.plan_answers([1, 1, 1] * 65, -1)

    def test_the_edges_of_each_number_of_a_piece(self):
        for index, least, greatest in ((0, 1, 28800), (1, 0, 1000), (2, 0, 1800000)):
            for value in (least, greatest):
                plan = [1, 1, 1]
                plan[index] = value
                self.plan_answers(plan, -3)
            for value in (least - 1, greatest + 1, LEAST, GREATEST):
                plan = [1, 1, 1] * 16
                plan[index] = value
                self.plan_answers(plan, -1)
                plan = [1, 1, 1] * 16
                plan[45 + index] = value
                self.plan_answers(plan, -1)

    def test_all_seconds_together(self):
        self.plan_answers([14400, 1, 1, 14400, 1, 1], -3)
        self.plan_answers([14400, 1, 1, 14401, 1, 1], -1)
        self.plan_answers([1800, 1, 1] * 16, -3)
        self.plan_answers([1800, 1, 1] * 15 + [1801, 1, 1], -1)

    def test_weights_of_nothing_are_not_looked_at_here(self):
        self.plan_answers([1, 0, 1], -3)

    def test_a_wrong_plan_goes_ahead_of_power(self):
        self.assertEqual(answers([FAIL, BEGIN, 0, 0, 1, 0, REPLAN, 0, 0, 3, 0, 1, 1]), [1, 0, 1, -1, 1, -1])


class NoPowerTest(MachineTest):
    def test_every_other_call_is_refused_without_power(self):
        device = Device()
        self.assertEqual(call(device, FAIL), [0])
        for place in range(34):
            if place not in ANSWERED_WITHOUT_POWER:
                with self.subTest(place=place):
                    self.refused(device, -2, place, *ALL_ALLOWED.get(place, ()), plan=plan_for(place))

    def test_six_calls_are_answered_without_power(self):
        device = Device()
        self.assertEqual(call(device, FAIL), [0])
        before = state(device)
        for place, count in ((LOOK, 16), (GUARD, 13), (CELL, 4), (PATH, 9), (TOTALS, 22)):
            given = call(device, place, *ALL_ALLOWED.get(place, ()))
            self.assertEqual((len(given), given[0]), (count, 0))
            self.assertEqual(state(device), before)
        self.assertEqual(call(device, BACK, 0), [0, 0, 0, 0])

    def test_no_power_goes_ahead_of_the_calls_own_refusals(self):
        # each of these is refused by a number of its own while there is power
        for row in ((LAY,), (JOIN,), (RUN, 1), (CENTRE,), (RESET, 0), (RESET, 5), (CLEAR,)):
            device = Device()
            self.refused(device, -3, *row)
            call(device, FAIL)
            self.refused(device, -2, *row)

    def test_through_answers(self):
        self.assertEqual(answers([FAIL, TEST, ARM, 0, DISARM, FAIL]), [1, 0, 1, -2, 1, -2, 1, -2, 1, -2])
        self.assertEqual(answers([FAIL, VENT, CHECK, PRESS, 0, 1001, CELL, 0, CELL, 16, BACK, 100001, BACK, 0, VENT]),
                         [1, 0, 1, -2, 1, -2, 1, -1, 4, 0, 0, 0, 1000, 1, -1, 1, -1, 4, 0, 0, 0, 0, 2, 0, 0])


class NewTest(MachineTest):
    def test_a_new_object(self):
        device = Device()
        new = state(device)
        self.assertEqual(new["store"]["slots"], [
            {"number": 0, "memory": {"phase": 0, "record": {
                "on": False, "goal": 0, "catching": False, "q": 1, "pieces": [], "base": 0, "t": 0,
                "counted": 0, "strokes": 0}}},
            None])
        self.assertEqual(
            (device.power, device.armed, device.taking, device.good, device.session_took),
            (True, None, False, 0, 0))
        self.assertEqual(new["line"], {
            "cells": [[0, 0, 1000]] * 16, "trapped": 0, "source": 0, "sink": 0, "haematocrit": 0, "bag": 0,
            "stuck": [None, None], "slipped": [False, False]})
        self.assertEqual(new["guard"], {
            "readings": [], "clean": 0, "unlike": 0, "streak": 0, "pressures": None, "centre": None,
            "uncentred": 0, "still": 0, "latches": 0})
        self.assertEqual(new["path"], {"cells": [0] * 6, "wall": 0})
        self.assertEqual(new["totals"], {
            "from_patient": [0, 0, 0], "from_bags": 0, "air_in": 16000, "given_back": [0, 0, 0],
            "spilt": [0, 0, 0], "drained": [0, 0, 0], "thrown_away": [0, 0, 0], "taken": 0, "vented": 0,
            "moves": 0, "lines": 1})

    def test_objects_share_nothing(self):
        before = state(Device())
        device = Device()
        device.line.cells[3] = (1, 2, 3)
        device.path.cells[3] = 9
        device.kept().record.pieces.append((1, 1, 1))
        device.guard.readings.append(1)
        self.assertEqual(state(Device()), before)

"""Promise 28: reset, for each of the eight latches."""

from bloodmachine.device import Device
from helper import (
    BAG, BEGIN, CENTRE, CHECK, DISARM, FAIL, FAULT, GREATEST, GUARD, HEM, JOIN, LAY, LEAK, LEAST, LEAVE, LOOK, PRESS,
    PRIME, RESET, RUN, TAKING, TEST, WAIT, MachineTest, answered, begun_device, call, joined_device, last_answered,
    state,
)


def latched_device(latches, joined=False):
    device = joined_device(taking=0) if joined else begun_device()
    device.guard.latches = latches
    return device


class ResetTest(MachineTest):
    def lowered(self, device, b, **others):
        before = state(device)
        left = device.guard.latches - 2 ** b
        self.assertEqual(call(device, RESET, b), [left])
        expected = {f"guard.{name}": value for name, value in others.items()}
        self.changed(device, before, {"guard.latches": left, **expected})

    def test_a_latch_that_is_not_up(self):
        for b in range(8):
            self.refused(Device(), -3, RESET, b)
            self.refused(latched_device(255 - 2 ** b), -3, RESET, b)
            self.refused(latched_device(255 - 2 ** b, joined=True), -3, RESET, b)

    def test_not_being_up_goes_ahead_of_what_may_not_be_lowered(self):
        device = begun_device()
        call(device, JOIN)
        call(device, LEAK, 1000)
        device.guard.clean = 0
        device.guard.pressures = (1000, 1000)
        for b in range(8):
            self.refused(device, -3, RESET, b)

    def test_wrong_arguments(self):
        for b in (-1, 8, LEAST, GREATEST):
            self.refused(latched_device(255), -1, RESET, b)

    def test_latch_0_while_clean_is_less_than_5(self):
        for clean in range(5):
            device = latched_device(255)
            device.guard.clean = clean
            self.refused(device, -4, RESET, 0)
        self.lowered(latched_device(255), 0)
        self.lowered(latched_device(1), 0)
        self.lowered(latched_device(1, joined=True), 0)

    def test_latches_1_and_7_always(self):
        for b in (1, 7):
            for joined in (False, True):
                self.refused(latched_device(255, joined), -4, RESET, b)
                self.refused(latched_device(2 ** b, joined), -4, RESET, b)

    def test_latch_2_while_streak_is_more_than_0(self):
        for streak in (1, 2, 3):
            device = latched_device(255)
            device.guard.streak = streak
            self.refused(device, -4, RESET, 2)
        self.lowered(latched_device(255), 2)
        self.lowered(latched_device(4, joined=True), 2)

    def held_up_or_lowered(self, device, bad_a, bad_v):
        for b, bad in ((3, bad_a), (4, bad_v)):
            device.guard.latches = 255
            if bad:
                self.refused(device, -4, RESET, b)
            else:
                self.lowered(device, b)

    def test_latches_3_and_4_by_the_last_pressures_without_a_centre(self):
        for a, v, bad_a, bad_v in ((-301, 10, True, False), (-300, 9, False, True), (101, 401, True, True),
                                   (100, 400, False, False), (-300, 10, False, False)):
            # joined or not, they are looked at
            for joined in (False, True):
                device = begun_device()
                if joined:
                    call(device, JOIN)
                call(device, PRESS, a, v)
                self.held_up_or_lowered(device, bad_a, bad_v)

    def test_latches_3_and_4_by_the_centre_as_it_is_now(self):
        for a, v, bad_a, bad_v in ((61, 160, True, False), (60, 161, False, True), (-61, 39, True, True),
                                   (-60, 40, False, False)):
            device = joined_device(taking=0)
            call(device, PRESS, a, v)
            self.held_up_or_lowered(device, bad_a, bad_v)
            self.assertEqual(call(device, CENTRE), [0])
            self.held_up_or_lowered(device, False, False)

    def test_latches_3_and_4_without_last_pressures(self):
        for b in (3, 4):
            self.lowered(latched_device(255), b)
            device = joined_device(taking=0)
            call(device, PRESS, 1000, 1000)
            self.refused(device, -4, RESET, b)
            call(device, LEAVE)
            self.lowered(device, b)

    def test_latch_5_while_taking_is_on(self):
        for joined in (False, True):
            device = latched_device(255, joined)
            call(device, TAKING, 1)
            self.refused(device, -4, RESET, 5)
            device.guard.latches = 255 - 32
            self.refused(device, -3, RESET, 5)
            device.guard.latches = 32
            self.refused(device, -4, RESET, 5)
            call(device, TAKING, 0)
            self.lowered(device, 5)

    def test_taking_holds_up_no_other_latch(self):
        for b in (0, 2, 3, 4, 6):
            device = joined_device(taking=1)
            device.guard.latches = 255
            self.lowered(device, b)

    def test_latch_6_while_joined_without_a_centre(self):
        device = begun_device()
        call(device, JOIN)
        self.assertEqual(call(device, RUN, 11)[:3], [0, 10, 64])
        self.refused(device, -4, RESET, 6)
        call(device, PRESS, 0, 100)
        self.refused(device, -4, RESET, 6)
        call(device, CENTRE)
        self.lowered(device, 6)
        device = begun_device()
        call(device, JOIN)
        call(device, RUN, 10)
        call(device, LEAVE)
        self.lowered(device, 6)

    def test_with_latch_6_uncentred_is_0_too(self):
        for joined in (False, True):
            device = latched_device(255, joined)
            device.guard.uncentred = 10
            self.lowered(device, 6, uncentred=0)
        for b in (0, 2, 3, 4, 5):
            device = latched_device(255)
            device.guard.uncentred = 10
            self.lowered(device, b)

    def test_the_answer_tells_what_is_still_up(self):
        device = latched_device(255)
        self.assertEqual(
            [call(device, RESET, b) for b in range(8)], [[254], [-4], [250], [242], [226], [194], [130], [-4]])


class ResetThroughAnswersTest(MachineTest):
    way = ((TEST,), (LAY,), (BAG, 5000000), (HEM, 300), (PRIME, 30, 0))
    begun = way + ((RESET, 0), (BEGIN, 0, 0, 1, [1, 1, 0]))
    joined = begun + ((JOIN,), (PRESS, 0, 100), (CENTRE,))

    def test_latch_0(self):
        self.assertEqual(
            answered((TEST,), (LAY,), (PRIME, 10, 0), (RESET, 0), (PRIME, 1, 0), (RESET, 0), (RESET, 0))[2:],
            [[0, 1, 4], [-4], [0, 1, 5], [0], [-3]])

    def test_latch_1(self):
        self.assertEqual(
            answered(*self.begun, (FAULT, 1, 1, 51), (RUN, 2), (RESET, 1), (FAULT, 1, 0, 0), (RESET, 1), (CHECK,),
                     (RESET, 1))[8:],
            [[0, 2, 2, 0], [-4], [0], [-4], [0], [-3]])

    def test_latch_2(self):
        self.assertEqual(
            answered((LEAK, 1000), (LEAK, 1000), (RESET, 2), (LEAK, 1000), (RESET, 2), (LEAK, 999), (RESET, 2)),
            [[0], [0], [-3], [4], [-4], [4], [0]])

    def test_latches_3_and_4(self):
        self.assertEqual(
            answered(*self.joined, (PRESS, 61, 39), (RESET, 3), (RESET, 4), (PRESS, 60, 40), (RESET, 4),
                     (RESET, 3))[10:],
            [[24], [-4], [-4], [24], [8], [0]])

    def test_latch_5(self):
        self.assertEqual(
            answered(*self.joined, (TAKING, 1), (RESET, 5), (HEM, 701), (RUN, 10), (RESET, 5), (TAKING, 0), (RESET, 5),
                     (RUN, 1), (DISARM,), (HEM, 700), (LEAVE,), (RUN, 1), (RESET, 5), (GUARD,))[11:],
            [[-3], [0], [0, 5, 32, 0, 0, 0, 0, 0, 0], [-4], [0], [0], [0, 1, 32, 0, 0], [0], [0], [0], [0, 1, 32, 0],
             [0], [0, 5, 4, 0, 0, 0, 0, 0, 8000, 2, 700, 4970000, 2]])

    def test_latch_6(self):
        self.assertEqual(
            answered(*self.begun, (JOIN,), (RUN, 100), (RESET, 6), (LEAVE,), (RESET, 6), (JOIN,), (RUN, 9), (GUARD,),
                     (RUN, 2), (PRESS, 0, 100), (CENTRE,), (RESET, 6), (GUARD,))[8:],
            [[0, 10, 64, 0] + [0] * 10, [-4], [0], [0], [0], [0, 9, 0, 0] + [0] * 9,
             [0, 5, 4, 0, 0, 0, 9, 0, 8000, 2, 300, 4970000, 1], [0, 1, 64, 0, 0], [64], [0], [0],
             [0, 5, 4, 0, 0, 0, 0, 0, 8000, 2, 300, 4970000, 1]])

    def test_latch_7(self):
        self.assertEqual(
            answered(*self.joined, (RUN, 1), (WAIT, 121), (RESET, 7), (LEAVE,), (RESET, 7), (FAIL,), (RESET, 7))[11:],
            [[128], [-4], [0], [-4], [0], [-2]])

    def test_a_refusal_changes_nothing_that_can_be_asked_for(self):
        asked = ((LOOK,), (GUARD,))
        before = answered(*self.joined, (PRESS, 500, 500), *asked)[-2:]
        for refused in ((RESET, 3), (RESET, 4), (RESET, 0), (RESET, 8), (RESET, -1), (RESET, 6)):
            given = answered(*self.joined, (PRESS, 500, 500), refused, *asked)
            self.assertLess(given[-3][0], 0)
            self.assertEqual(given[-2:], before)

    def test_the_least_and_the_greatest(self):
        self.assertEqual(last_answered((RESET, 0)), [-3])
        self.assertEqual(last_answered((RESET, 7)), [-3])
        for b in (-1, 8, LEAST, GREATEST):
            self.assertEqual(last_answered((RESET, b)), [-1])

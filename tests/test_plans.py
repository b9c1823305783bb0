"""Plans (weights, room, target), the next record, and the two slots."""

from bloodmachine.device import Device
from bloodmachine.memory import Memory, Slot, next_record
from bloodmachine.plans import pieces_of, plan_seconds, room, target, weights
from helper import MachineTest, call, record_of, state

PIECES = [(3, 2, 3600), (2, 0, 1800), (4, 5, 5000)]


def slow_sum(pieces, t, part):
    seconds = []
    for piece in pieces:
        seconds += [piece[part]] * piece[0]
    return sum(seconds[:t])


class PlanTest(MachineTest):
    def test_pieces_stand_one_behind_another(self):
        self.assertEqual(pieces_of([3, 2, 3600, 2, 0, 1800]), [(3, 2, 3600), (2, 0, 1800)])
        self.assertEqual(plan_seconds(PIECES), 9)

    def test_weights(self):
        self.assertEqual([weights(PIECES, t) for t in range(10)], [0, 2, 4, 6, 6, 6, 11, 16, 21, 26])

    def test_room_is_divided_once(self):
        self.assertEqual([room(PIECES, t) for t in range(10)], [0, 1, 2, 3, 3, 4, 5, 6, 8, 9])

    def test_target(self):
        self.assertEqual([target(PIECES, 100, t) for t in range(10)],
                         [0, 7, 15, 23, 23, 23, 42, 61, 80, 100])

    def test_second_by_second(self):
        pieces = [(1, 0, 7), (7, 1000, 1800000), (1, 3, 0), (90, 7, 3599), (5, 0, 1), (13, 1, 123456)]
        for t in range(plan_seconds(pieces) + 1):
            self.assertEqual(weights(pieces, t), slow_sum(pieces, t, 1))
            self.assertEqual(room(pieces, t), slow_sum(pieces, t, 2) // 3600)
            self.assertEqual(target(pieces, 98765, t), 98765 * slow_sum(pieces, t, 1) // slow_sum(pieces, 117, 1))

    def test_the_greatest_plan(self):
        pieces = [(1800, 1000, 1800000)] * 16
        self.assertEqual(weights(pieces, 28800), 28800000)
        self.assertEqual(room(pieces, 28800), 14400000)
        self.assertEqual(target(pieces, 100000000, 28800), 100000000)


class NextRecordTest(MachineTest):
    def counted(self, record, seconds):
        row = []
        for second in range(seconds):
            record = next_record(record)
            self.assertEqual(record.t, second + 1)
            row.append(record.counted)
        return row

    def test_without_catching_up_what_the_room_cut_is_lost(self):
        # target 10, 20, 30, 40; room 36000 // 3600 = 10 in all but the second second (2)
        plan = [1, 1, 36000, 1, 1, 7200, 2, 1, 72000]
        self.assertEqual(self.counted(record_of(40, 0, 1, plan), 4), [10, 12, 22, 32])

    def test_with_catching_up_it_comes_later(self):
        plan = [1, 1, 36000, 1, 1, 7200, 2, 1, 72000]
        self.assertEqual(self.counted(record_of(40, 1, 1, plan), 4), [10, 12, 30, 40])

    def test_strokes_are_rounded_down(self):
        record = record_of(3600, 0, 10)
        strokes = []
        for second in range(5):
            record = next_record(record)
            strokes.append((record.counted, record.strokes))
        self.assertEqual(strokes, [(36, 3), (72, 7), (108, 10), (144, 14), (180, 18)])

    def test_base_is_taken_off_goal_and_counted(self):
        # 100 more over 4 seconds, with 1000 counted under the plan before
        record = record_of(1100, 0, 7, [4, 1, 1800000], base=1000, counted=1000, strokes=142)
        following = next_record(record)
        self.assertEqual((following.counted, following.strokes, following.base), (1025, 146, 1000))
        record.catching = True
        record.counted = 1010
        self.assertEqual(next_record(record).counted, 1025)
        record.catching = False
        self.assertEqual(next_record(record).counted, 1035)

    def test_no_room_counts_nothing(self):
        self.assertEqual(self.counted(record_of(40, 1, 1, [4, 1, 3599]), 4), [0, 1, 2, 3])
        self.assertEqual(self.counted(record_of(40, 1, 1, [4, 1, 0]), 4), [0, 0, 0, 0])

    def test_the_record_before_and_all_else_stay(self):
        record = record_of(40, 1, 3, [4, 1, 36000], base=0, t=1, counted=9, strokes=3)
        before = state(record)
        following = state(next_record(record))
        self.assertEqual(state(record), before)
        self.assertEqual(following, dict(before, t=2, counted=19, strokes=6))


class SlotTest(MachineTest):
    def test_the_newest_is_the_whole_one_with_the_greater_number(self):
        device = Device()
        first = Slot(4, Memory(1, record_of()))
        second = Slot(5, Memory(2, record_of()))
        for slots, phase in (([first, second], 2), ([second, first], 2), ([first, None], 1), ([None, first], 1)):
            device.store.slots = slots
            self.assertEqual(device.kept().phase, phase)

    def test_writing_goes_to_the_other_slot_each_time(self):
        device = Device()
        numbers = []
        for phase in (1, 2, 3, 4):
            self.assertTrue(device.write(phase, device.kept().record))
            numbers.append([None if slot is None else slot.number for slot in device.store.slots])
            self.assertEqual(device.kept().phase, phase)
        self.assertEqual(numbers, [[0, 1], [2, 1], [2, 3], [4, 3]])

    def test_power_failing_in_a_write(self):
        for armed, slots in ((0, [(2, 6), (1, 5)]), (1, [(2, 6), None]), (2, [(2, 6), (3, 7)])):
            device = Device()
            device.write(5, device.kept().record)
            device.write(6, device.kept().record)
            device.armed = armed
            self.assertEqual(device.write(7, device.kept().record), armed == 2)
            self.assertEqual(
                [None if slot is None else (slot.number, slot.memory.phase) for slot in device.store.slots], slots)
            self.assertEqual(device.power, armed == 2)

    def test_a_spoilt_slot_is_written_next(self):
        device = Device()
        call(device, 14, 1)
        self.assertEqual(call(device, 0), [1])
        device.power = True
        self.assertEqual(call(device, 0), [0, 0])
        self.assertEqual([slot.number for slot in device.store.slots], [0, 1])

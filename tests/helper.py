"""What all tests share: calls on one object, its whole state, and objects in a wished state."""

import unittest

from bloodmachine.device import Device
from bloodmachine.forms import Call
from bloodmachine.machine import answer_call, answers
from bloodmachine.memory import Memory, Slot, begun_record
from bloodmachine.plans import pieces_of

(TEST, LAY, PRIME, BEGIN, REPLAN, JOIN, LEAVE, TAKING, RUN, FINISH, DONE,
 DISINFECT, RINSE, CLEAR, ARM, DISARM, FAIL, BACK, BAG, HEM, FAULT, SLIP, PRESS, CENTRE,
 LEAK, WAIT, VENT, CHECK, RESET, LOOK, GUARD, CELL, PATH, TOTALS) = range(34)
(IDLE, TESTED, PRIMING, TREATING, RETURNING, SPENT, DISINFECTING, RINSING) = range(8)

LEAST = -2 ** 63
GREATEST = 2 ** 63 - 1

# 100 seconds of one weight, 500 microlitres a second at the most.
PLAN = [100, 1, 1800000]


def call(device, place, *numbers, plan=None):
    return answer_call(device, Call(place, list(numbers), None if plan is None else list(plan)))


def answered(*rows):
    """The answers, one list each, of rows on one new object; a plan is a list, the last of its row."""
    calls = []
    for row in rows:
        for number in row:
            if isinstance(number, list):
                calls.append(len(number))
                calls.extend(number)
            else:
                calls.append(number)
    before = list(calls)
    given = answers(calls)
    assert calls == before
    split = []
    while given:
        split.append(given[1:1 + given[0]])
        assert len(split[-1]) == given[0]
        given = given[1 + given[0]:]
    assert len(split) == len(rows)
    return split


def last_answered(*rows):
    return answered(*rows)[-1]


def state(thing):
    """All that an object holds, down to plain values, so that two states can be compared."""
    if isinstance(thing, (list, tuple)):
        return [state(part) for part in thing]
    if hasattr(thing, "__dict__"):
        return {name: state(value) for name, value in vars(thing).items()}
    return thing


def kept(device):
    """The phase and the record that are kept, the record as a dict."""
    memory = device.kept()
    return memory.phase, vars(memory.record)


def keep(device, phase, record=None):
    """Puts a memory into slot 0 by hand; slot 1 is bad."""
    record = device.kept().record if record is None else record
    device.store.slots = [Slot(7, Memory(phase, record)), None]


def device_in(phase):
    device = Device()
    keep(device, phase)
    return device


def primed_device(bag=5000000):
    """In phase 2, sure, nothing latched."""
    device = Device()
    assert call(device, TEST) == [0, 0]
    assert call(device, LAY) == [0]
    assert call(device, BAG, bag) == [0]
    assert call(device, PRIME, 100, 0) == [0, 1, 5]
    assert call(device, RESET, 0) == [0]
    return device


def begun_device(goal=3600, catch=0, q=10, plan=PLAN, haematocrit=400):
    device = primed_device()
    assert call(device, HEM, haematocrit) == [0]
    assert call(device, BEGIN, goal, catch, q, plan=plan) == [0]
    return device


def joined_device(goal=3600, catch=0, q=10, plan=PLAN, haematocrit=400, taking=1):
    """Joined and centred, so that no latch comes of itself."""
    device = begun_device(goal, catch, q, plan, haematocrit)
    assert call(device, JOIN) == [0]
    assert call(device, PRESS, 0, 100) == [0]
    assert call(device, CENTRE) == [0]
    assert call(device, TAKING, taking) == [0]
    return device


def record_of(goal=3600, catch=0, q=10, plan=PLAN, **others):
    record = begun_record(goal, catch, q, pieces_of(plan))
    for name, value in others.items():
        assert hasattr(record, name)
        setattr(record, name, value)
    return record


class MachineTest(unittest.TestCase):
    def refused(self, device, refusal, place, *numbers, plan=None):
        before = state(device)
        self.assertEqual(call(device, place, *numbers, plan=plan), [refusal])
        self.assertEqual(state(device), before)

    def changed(self, device, before, expected):
        """The state differs from the one before by just what is expected, by dotted names."""
        after = dict(flat(state(device)))
        wanted = dict(flat(before))
        for name, value in expected.items():
            self.assertIn(name, wanted)
            wanted[name] = value
        self.assertEqual(after, wanted)


def flat(values, above=""):
    for name, value in values.items():
        if isinstance(value, dict):
            yield from flat(value, f"{above}{name}.")
        else:
            yield f"{above}{name}", value

"""What the machine keeps without power: two slots, each bad or whole."""

from bloodmachine.plans import room, target

IDLE = 0
TESTED = 1
PRIMING = 2
TREATING = 3
RETURNING = 4
SPENT = 5
DISINFECTING = 6
RINSING = 7


class Record:
    def __init__(self):
        self.on = False
        self.goal = 0
        self.catching = False
        self.q = 1
        self.pieces = []
        self.base = 0
        self.t = 0
        self.counted = 0
        self.strokes = 0


class Memory:
    def __init__(self, phase, record):
        self.phase = phase
        self.record = record


class Slot:
    def __init__(self, number, memory):
        self.number = number
        self.memory = memory


class Store:
    def __init__(self):
        # A bad slot is None.
        self.slots = [Slot(0, Memory(IDLE, Record())), None]

    def newest(self):
        first = self.slots[0]
        second = self.slots[1]
        if first is None:
            return 1
        if second is None or first.number > second.number:
            return 0
        return 1

    def kept(self):
        return self.slots[self.newest()].memory

    def spoil_older(self):
        self.slots[1 - self.newest()] = None

    def fill_older(self, memory):
        newest = self.newest()
        self.slots[1 - newest] = Slot(self.slots[newest].number + 1, memory)


# A record that lies in a slot is never changed: each change is made on a copy,
# so that a power failure between two small steps leaves the kept one as it was.
def copy_record(record):
    fresh = Record()
    fresh.on = record.on
    fresh.goal = record.goal
    fresh.catching = record.catching
    fresh.q = record.q
    fresh.pieces = record.pieces
    fresh.base = record.base
    fresh.t = record.t
    fresh.counted = record.counted
    fresh.strokes = record.strokes
    return fresh


def begun_record(goal, catch, q, pieces):
    fresh = Record()
    fresh.on = True
    fresh.goal = goal
    fresh.catching = catch == 1
    fresh.q = q
    fresh.pieces = pieces
    return fresh


def replanned_record(record, goal, catch, pieces):
    fresh = copy_record(record)
    fresh.goal = goal
    fresh.catching = catch == 1
    fresh.pieces = pieces
    fresh.base = record.counted
    fresh.t = 0
    return fresh


def ended_record(record):
    fresh = copy_record(record)
    fresh.on = False
    return fresh


def next_record(record):
    t = record.t + 1
    goal = record.goal - record.base
    reached = record.counted - record.base
    if not record.catching:
        reached = target(record.pieces, goal, t - 1)
    due = target(record.pieces, goal, t) - reached
    allowed = room(record.pieces, t) - room(record.pieces, t - 1)
    fresh = copy_record(record)
    fresh.t = t
    fresh.counted = record.counted + min(due, allowed)
    fresh.strokes = fresh.counted // record.q
    return fresh

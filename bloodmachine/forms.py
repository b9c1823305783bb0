"""The forms of the calls: where each stands in the list, and which arguments it may have."""

from bloodmachine.plans import is_plan, pieces_of

# By place: of each argument the least, the greatest, and how far apart the allowed ones lie.
RANGES = {
    0: (),
    1: (),
    2: ((1, 100, 1), (0, 2, 2)),
    3: ((0, 100000000, 1), (0, 1, 1), (1, 500, 1)),
    4: ((0, 100000000, 1), (0, 1, 1)),
    5: (),
    6: (),
    7: ((0, 1, 1),),
    8: ((1, 100, 1),),
    9: (),
    10: (),
    11: ((1, 100, 1),),
    12: ((1, 100, 1),),
    13: (),
    14: ((0, 1000000, 1),),
    15: (),
    16: (),
    17: ((0, 100000, 1),),
    18: ((0, 5000000, 1),),
    19: ((0, 1000, 1),),
    20: ((0, 1, 1), (0, 1, 1), (0, 1000, 1)),
    21: ((0, 1, 1), (0, 1, 1)),
    22: ((-1000, 1000, 1), (-1000, 1000, 1)),
    23: (),
    24: ((0, 1000000, 1),),
    25: ((1, 3600, 1),),
    26: (),
    27: (),
    28: ((0, 7, 1),),
    29: (),
    30: (),
    31: ((0, 15, 1),),
    32: (),
    33: (),
}
WITH_PLAN = (3, 4)
# back, look, guard, cell, path and totals.
WITHOUT_POWER = (17, 29, 30, 31, 32, 33)


class Call:
    # plan is None where the call has none, else its numbers, one piece behind another.
    def __init__(self, place, numbers, plan):
        self.place = place
        self.numbers = numbers
        self.plan = plan


def split_calls(calls):
    rows = []
    at = 0
    while at < len(calls):
        place = calls[at]
        behind = at + 1 + len(RANGES.get(place, ()))
        numbers = calls[at + 1:behind]
        plan = None
        if place in WITH_PLAN:
            start = behind + 1
            behind = start + calls[behind]
            plan = calls[start:behind]
        rows.append(Call(place, numbers, plan))
        at = behind
    return rows


def has_form(call):
    if call.place not in RANGES or len(call.numbers) != len(RANGES[call.place]):
        return False
    if call.place in WITH_PLAN:
        return call.plan is not None and len(call.plan) % 3 == 0
    return call.plan is None


def needs_power(call):
    return call.place not in WITHOUT_POWER


def fits(number, allowed):
    return allowed[0] <= number <= allowed[1] and (number - allowed[0]) % allowed[2] == 0


def in_range(call):
    for number, allowed in zip(call.numbers, RANGES[call.place]):
        if not fits(number, allowed):
            return False
    return call.plan is None or is_plan(pieces_of(call.plan))


# What a call's work is handed: its numbers, and behind them its plan's pieces if it has a plan.
def given_by(call):
    if call.plan is None:
        return list(call.numbers)
    return call.numbers + [pieces_of(call.plan)]

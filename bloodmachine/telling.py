"""The calls that change nothing and tell what is: 29 look, 30 guard, 31 cell, 32 path, 33 totals."""

from bloodmachine.plans import plan_seconds


# True and False are no whole numbers here.
def as_number(truth):
    return 1 if truth else 0


def tell_look(device, given):
    kept = device.kept()
    return [
        0,
        as_number(device.power),
        -1 if device.armed is None else device.armed,
        kept.phase,
        as_number(device.joined()),
        as_number(device.taking),
    ] + record_numbers(kept.record) + [device.session_took]


def record_numbers(record):
    return [
        as_number(record.on),
        record.goal,
        as_number(record.catching),
        record.q,
        plan_seconds(record.pieces),
        record.base,
        record.t,
        record.counted,
        record.strokes,
    ]


def tell_guard(device, given):
    guard = device.guard
    line = device.line
    return [
        guard.latches,
        guard.clean,
        len(guard.readings),
        sum(guard.readings),
        guard.unlike,
        guard.streak,
        guard.uncentred,
        guard.still,
        line.trapped,
        line.source,
        line.haematocrit,
        line.bag,
        line.sink,
    ]


def tell_cell(device, given):
    return [0] + list(device.line.cells[given[0]])


def tell_path(device, given):
    return [0] + device.path.cells + [device.path.wall, device.good]


def tell_totals(device, given):
    totals = device.totals
    came_in = list(totals.from_patient) + [totals.from_bags, totals.air_in]
    went_out = list(totals.given_back + totals.spilt + totals.drained + totals.thrown_away)
    return [0] + came_in + went_out + [totals.taken, totals.vented, totals.moves, totals.lines]


CALLS = {29: tell_look, 30: tell_guard, 31: tell_cell, 32: tell_path, 33: tell_totals}


def tell(device, place, given):
    return CALLS[place](device, given)

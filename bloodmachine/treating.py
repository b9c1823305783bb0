"""The calls of a treatment: 3 begin, 4 replan, 5 join, 6 leave, 7 taking, 8 run, 9 finish, 10 done."""

from bloodmachine.line import FROM_BAG, FROM_PATIENT, LOOP, TO_PATIENT
from bloodmachine.memory import (
    PRIMING, RETURNING, SPENT, TREATING, begun_record, ended_record, next_record, replanned_record,
)
from bloodmachine.plans import plan_seconds, weights
from bloodmachine.pump import may_move, pump_move


def weighs_nothing(pieces):
    return weights(pieces, plan_seconds(pieces)) == 0


def begin_session(device, given):
    if device.kept().phase != PRIMING:
        return [-3]
    if device.guard.latched():
        return [-4]
    if not device.guard.sure():
        return [-5]
    if weighs_nothing(given[3]):
        return [-6]
    if not device.write(TREATING, begun_record(given[0], given[1], given[2], given[3])):
        return [1]
    device.session_took = 0
    device.taking = False
    device.aim(LOOP)
    line = device.line
    line.source = FROM_PATIENT
    return [0]


def replan_session(device, given):
    kept = device.kept()
    if kept.phase != TREATING:
        return [-3]
    if weighs_nothing(given[2]):
        return [-4]
    if given[0] < kept.record.counted:
        return [-5]
    if not device.write(TREATING, replanned_record(kept.record, given[0], given[1], given[2])):
        return [1]
    return [0]


def join_patient(device, given):
    if device.kept().phase not in (TREATING, RETURNING):
        return [-3]
    if device.joined():
        return [-4]
    if device.guard.latched():
        return [-5]
    if not device.guard.sure():
        return [-6]
    device.aim(TO_PATIENT)
    return [0]


def leave_patient(device, given):
    if not device.joined():
        return [-3]
    device.aim(LOOP)
    return [0]


def switch_taking(device, given):
    if device.kept().phase != TREATING:
        return [-3]
    device.taking = given[0] == 1
    return [0]


def run_seconds(device, given):
    seconds = given[0]
    if device.kept().phase not in (TREATING, RETURNING):
        return [-3]
    if device.stopped():
        return [-4]
    if not may_move(device, seconds):
        return [-5]
    whole = 0
    airs = []
    while whole < seconds and device.power and not device.stopped():
        # Asked ahead of the second: a failing in it unjoins the line.
        joined = device.joined()
        air = run_second(device)
        if device.power:
            whole += 1
            if joined:
                airs.append(air)
    failed = 0 if device.power else 1
    return [failed, whole, device.guard.latches, device.kept().record.counted] + airs


# The record is kept ahead of the pump move: if the power fails between them,
# less was taken than was counted, never more.
def run_second(device):
    kept = device.kept()
    wished = 0
    if takes_fluid(device, kept.record):
        fresh = next_record(kept.record)
        if not device.write(kept.phase, fresh):
            return None
        wished = fresh.q * (fresh.strokes - kept.record.strokes)
    if not device.may_step():
        return None
    return pump_move(device, wished)


def takes_fluid(device, record):
    return device.joined() and device.taking and record.on and record.t < plan_seconds(record.pieces)


def finish_session(device, given):
    kept = device.kept()
    if kept.phase != TREATING:
        return [-3]
    record = ended_record(kept.record)
    if not device.write(RETURNING, record):
        return [1]
    device.taking = False
    line = device.line
    line.source = FROM_BAG
    return [0, record.goal, record.counted, record.strokes, record.t]


def end_use(device, given):
    kept = device.kept()
    if kept.phase not in (PRIMING, TREATING, RETURNING):
        return [-3]
    if device.joined():
        return [-4]
    if not device.write(SPENT, ended_record(kept.record)):
        return [1]
    device.taking = False
    return [0]


CALLS = {
    3: begin_session, 4: replan_session, 5: join_patient, 6: leave_patient,
    7: switch_taking, 8: run_seconds, 9: finish_session, 10: end_use,
}


def treat(device, place, given):
    return CALLS[place](device, given)

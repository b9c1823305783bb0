"""The calls that make the machine ready: 0 test, 1 lay, 2 prime."""

from bloodmachine.line import FROM_BAG
from bloodmachine.memory import IDLE, PRIMING, TESTED
from bloodmachine.pump import may_move, pump_move

MOST_LINES = 1000000


def self_test(device, given):
    kept = device.kept()
    if kept.phase != IDLE:
        return [-3]
    stuck = device.line.stuck_number()
    if stuck > 0:
        return [0, stuck]
    if not device.write(TESTED, kept.record):
        return [1]
    return [0, 0]


def lay_line(device, given):
    kept = device.kept()
    if kept.phase != TESTED:
        return [-3]
    if device.totals.lines >= MOST_LINES:
        return [-4]
    if not device.may_step():
        return [1]
    replace_line(device)
    if not device.write(PRIMING, kept.record):
        return [1]
    return [0]


def replace_line(device):
    device.vent()
    device.totals.count_thrown_away(device.line.cells)
    device.totals.count_line()
    device.line.lay()
    device.guard.renew()


def prime_line(device, given):
    moves = given[0]
    if device.kept().phase != PRIMING:
        return [-3]
    if not may_move(device, moves):
        return [-4]
    device.aim(given[1])
    line = device.line
    line.source = FROM_BAG
    for move in range(moves):
        if not device.may_step():
            return [1]
        pump_move(device, 0)
    return [0, device.guard.latches, device.guard.clean]


CALLS = {0: self_test, 1: lay_line, 2: prime_line}


def prepare(device, place, given):
    return CALLS[place](device, given)

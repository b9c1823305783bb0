"""The pump move, in the order of its twelve steps."""

from bloodmachine.line import (
    AIR_CELL, ARTERY, DIALYSER, FROM_BAG, FROM_PATIENT, FULL, LOOP, TO_DRAIN, VEIN,
)

MOST_MOVES = 1000000000


def may_move(device, moves):
    return device.totals.moves + moves <= MOST_MOVES


# Answers the air of the cell that left.
def pump_move(device, wished):
    line = device.line
    totals = device.totals
    fresh = new_cell(line, totals)
    leaving = line.cells[-1]
    let_go(line, totals, leaving)
    line.push(fresh)
    taken = line.take_water(wished)
    device.session_took += taken
    totals.taken += taken
    line.trap_air()
    watch(device)
    device.path.flow()
    totals.moves += 1
    return leaving[2]


def new_cell(line, totals):
    if line.sink == LOOP:
        return line.cells[-1]
    if line.source == FROM_BAG:
        return bag_cell(line, totals)
    if line.source == FROM_PATIENT and not line.slipped[ARTERY]:
        cell = (line.haematocrit, FULL - line.haematocrit, 0)
        totals.count_from_patient(cell)
        return cell
    totals.air_in += FULL
    return AIR_CELL


def bag_cell(line, totals):
    water = min(FULL, line.bag)
    line.bag -= water
    totals.from_bags += water
    totals.air_in += FULL - water
    return (0, water, FULL - water)


def let_go(line, totals, cell):
    if line.sink == LOOP:
        return
    if line.sink == TO_DRAIN:
        totals.count_drained(cell)
    elif line.slipped[VEIN]:
        totals.count_spilt(cell)
    else:
        totals.count_given_back(cell)


def watch(device):
    line = device.line
    guard = device.guard
    guard.watch_air(line.channel_reading(0), line.channel_reading(1))
    guard.watch_thickness(line.cells[DIALYSER])
    guard.watch_centre(device.joined())
    guard.still = 0

"""The calls that the guard attends to: 22 press, 23 centre, 24 leak, 25 wait, 26 vent, 27 check, 28 reset."""

from bloodmachine.guard import (
    AIR_LATCH, ARTERY_LATCH, LEAK_LATCH, STILL_LATCH, THICK_LATCH, UNCENTRED_LATCH, UNLIKE_LATCH, VEIN_LATCH, in_bounds,
)
from bloodmachine.line import ARTERY, VEIN

# By place: what each latch adds to the latches' number.
LATCHES = (1, 2, 4, 8, 16, 32, 64, 128)


def measure_pressures(device, given):
    device.guard.watch_pressures((given[0], given[1]), device.joined())
    return [device.guard.latches]


def centre_pressures(device, given):
    last = device.guard.pressures
    if last is None:
        return [-3]
    if not in_bounds(ARTERY, last[ARTERY]) or not in_bounds(VEIN, last[VEIN]):
        return [-4]
    device.guard.set_centre()
    return [0]


def measure_leak(device, given):
    device.guard.watch_leak(given[0])
    return [device.guard.latches]


def wait_seconds(device, given):
    device.let_pass(given[0])
    return [device.guard.latches]


def vent_trap(device, given):
    return [0, device.vent()]


def check_channels(device, given):
    stuck = device.line.stuck_number()
    if stuck == 0:
        device.guard.trust_channels()
    return [stuck]


def reset_latch(device, given):
    guard = device.guard
    latch = LATCHES[given[0]]
    if not guard.is_up(latch):
        return [-3]
    if must_stay_up(device, latch):
        return [-4]
    guard.lower_latch(latch)
    if latch == UNCENTRED_LATCH:
        guard.uncentred = 0
    return [guard.latches]


def must_stay_up(device, latch):
    guard = device.guard
    if latch == AIR_LATCH:
        return not guard.sure()
    # Only check lowers the one of these, only a new line the other.
    if latch in (UNLIKE_LATCH, STILL_LATCH):
        return True
    if latch == LEAK_LATCH:
        return guard.streak > 0
    if latch == ARTERY_LATCH:
        return guard.last_is_bad(ARTERY)
    if latch == VEIN_LATCH:
        return guard.last_is_bad(VEIN)
    if latch == THICK_LATCH:
        return device.taking
    # The one that's left is of a line without a centre.
    return device.joined() and guard.centre is None


CALLS = {
    22: measure_pressures, 23: centre_pressures, 24: measure_leak, 25: wait_seconds,
    26: vent_trap, 27: check_channels, 28: reset_latch,
}


def attend(device, place, given):
    return CALLS[place](device, given)

"""The calls between two patients: 11 disinfect, 12 rinse, 13 clear."""

from bloodmachine.memory import DISINFECTING, IDLE, PRIMING, RETURNING, RINSING, TREATING

RINSED = 5
MOST_GOOD = 6


# Whether the phase is this one now; without a small step where it was already.
def enter_phase(device, phase):
    kept = device.kept()
    if kept.phase == phase:
        return True
    return device.write(phase, kept.record)


def disinfect_path(device, given):
    if device.kept().phase in (PRIMING, TREATING, RETURNING):
        return [-3]
    if not enter_phase(device, DISINFECTING):
        return [1]
    for move in range(given[0]):
        if not device.may_step():
            return [1]
        device.path.soak()
        device.good = 0
    return [0]


def rinse_path(device, given):
    if device.kept().phase not in (DISINFECTING, RINSING):
        return [-3]
    if not enter_phase(device, RINSING):
        return [1]
    for move in range(given[0]):
        if not device.may_step():
            return [1]
        if device.path.flow() < RINSED:
            device.good = min(device.good + 1, MOST_GOOD)
        else:
            device.good = 0
    return [0, device.good]


def clear_path(device, given):
    kept = device.kept()
    if kept.phase != RINSING:
        return [-3]
    if device.good < MOST_GOOD:
        return [-4]
    if not device.write(IDLE, kept.record):
        return [1]
    return [0]


CALLS = {11: disinfect_path, 12: rinse_path, 13: clear_path}


def clean(device, place, given):
    return CALLS[place](device, given)

"""The calls that change what is around the machine: 18 bag, 19 hem, 20 fault, 21 slip."""


def hang_bag(device, given):
    line = device.line
    line.bag = given[0]
    return [0]


def change_blood(device, given):
    line = device.line
    line.haematocrit = given[0]
    return [0]


def change_channel(device, given):
    stuck = device.line.stuck
    stuck[given[0]] = given[2] if given[1] == 1 else None
    return [0]


def change_needle(device, given):
    slipped = device.line.slipped
    slipped[given[0]] = given[1] == 1
    return [0]


CALLS = {18: hang_bag, 19: change_blood, 20: change_channel, 21: change_needle}


def happen(device, place, given):
    return CALLS[place](device, given)

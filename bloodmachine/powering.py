"""The calls that let the power fail: 14 arm, 15 disarm, 16 fail."""


def arm_failing(device, given):
    device.armed = given[0]
    return [0]


def disarm_failing(device, given):
    device.armed = None
    return [0]


def fail_now(device, given):
    device.lose_power()
    return [0]


CALLS = {14: arm_failing, 15: disarm_failing, 16: fail_now}


def switch_power(device, place, given):
    return CALLS[place](device, given)

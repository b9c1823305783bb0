"""The calls that let the power fail and come back: 14 arm, 15 disarm, 16 fail, 17 back."""


def arm_failing(device, given):
    device.armed = given[0]
    return [0]


def disarm_failing(device, given):
    device.armed = None
    return [0]


def fail_now(device, given):
    device.lose_power()
    return [0]


def come_back(device, given):
    if device.power:
        return [-3]
    device.power = True
    device.let_pass(given[0])
    kept = device.kept()
    return [0, kept.phase, device.guard.latches, kept.record.counted]


CALLS = {14: arm_failing, 15: disarm_failing, 16: fail_now, 17: come_back}


def switch_power(device, place, given):
    return CALLS[place](device, given)

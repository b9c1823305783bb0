"""The program's one function, answers, and the order of the refusals that all calls share."""

from bloodmachine.cleaning import clean
from bloodmachine.device import Device
from bloodmachine.forms import given_by, has_form, in_range, needs_power, split_calls
from bloodmachine.guarding import attend
from bloodmachine.happening import happen
from bloodmachine.powering import switch_power
from bloodmachine.preparing import prepare
from bloodmachine.telling import tell
from bloodmachine.treating import treat


def answers(calls):
    device = Device()
    given_back = []
    for call in split_calls(calls):
        answer = answer_call(device, call)
        given_back.append(len(answer))
        given_back.extend(answer)
    return given_back


def answer_call(device, call):
    if not has_form(call):
        return [-100]
    if not in_range(call):
        return [-1]
    if needs_power(call) and not device.power:
        return [-2]
    return carry_out(device, call.place, given_by(call))


def carry_out(device, place, given):
    if place <= 2:
        return prepare(device, place, given)
    if place <= 10:
        return treat(device, place, given)
    if place <= 13:
        return clean(device, place, given)
    if place <= 17:
        return switch_power(device, place, given)
    if place <= 21:
        return happen(device, place, given)
    if place <= 28:
        return attend(device, place, given)
    return tell(device, place, given)

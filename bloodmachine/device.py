"""The object that the calls work on: what really is, and what the machine keeps."""

from bloodmachine.guard import Guard
from bloodmachine.line import LOOP, TO_PATIENT, Line
from bloodmachine.memory import Memory, Store
from bloodmachine.path import Path
from bloodmachine.totals import Totals


class Device:
    def __init__(self):
        self.store = Store()
        self.power = True
        # None: the power's failing isn't armed.
        self.armed = None
        self.taking = False
        self.good = 0
        self.session_took = 0
        self.line = Line()
        self.guard = Guard()
        self.path = Path()
        self.totals = Totals()

    def kept(self):
        return self.store.kept()

    def joined(self):
        return self.line.sink == TO_PATIENT

    def stopped(self):
        return self.joined() and self.guard.latched()

    def aim(self, sink):
        line = self.line
        if line.sink != sink:
            line.sink = sink
            self.guard.forget_pressures()

    def lose_power(self):
        self.power = False
        self.armed = None
        self.taking = False
        self.good = 0
        self.guard.lose_power()
        line = self.line
        line.sink = LOOP

    # Answers how much air it was.
    def vent(self):
        vented = self.line.empty_trap()
        self.totals.count_vented(vented)
        return vented

    # Time goes by with the power or without it.
    def let_pass(self, seconds):
        self.guard.watch_standing(seconds, self.line.has_red())

    # Asked ahead of each small step; where it says no, the power has failed
    # and the call that asked must do nothing more.
    def may_step(self):
        if self.armed is None:
            return True
        if self.armed == 0:
            self.lose_power()
            return False
        self.armed -= 1
        return True

    # Whether both small steps were done. What a call does in the second one, too,
    # it does right behind this: no failing can come between.
    def write(self, phase, record):
        if not self.may_step():
            return False
        self.store.spoil_older()
        if not self.may_step():
            return False
        self.store.fill_older(Memory(phase, record))
        return True

"""The guard: what it remembers of the readings, and its eight latches."""

from bloodmachine.line import ARTERY, VEIN

# A latch's number is what it adds to the latches' number.
AIR_LATCH = 1
UNLIKE_LATCH = 2
LEAK_LATCH = 4
ARTERY_LATCH = 8
VEIN_LATCH = 16
THICK_LATCH = 32
UNCENTRED_LATCH = 64
STILL_LATCH = 128

READINGS_KEPT = 4
BAD_READING = 200
BAD_READINGS = 400
SURE = 5
FAR_APART = 50
MOST_UNLIKE = 2
MOST_UNCENTRED = 10
BAD_LEAK = 1000
MOST_STREAK = 3
LONG_STILL = 120
MOST_STILL = 1000000
FAR_FROM_CENTRE = 60

# The least and the greatest that's allowed to the artery's pressure, and to the vein's.
PRESSURE_BOUNDS = ((-300, 100), (10, 400))


def in_bounds(which, pressure):
    bounds = PRESSURE_BOUNDS[which]
    return bounds[0] <= pressure <= bounds[1]


class Guard:
    def __init__(self):
        self.renew()

    def renew(self):
        self.forget()
        self.still = 0
        self.latches = 0

    def forget(self):
        self.readings = []
        self.clean = 0
        self.unlike = 0
        self.streak = 0
        self.forget_pressures()

    def forget_pressures(self):
        self.pressures = None
        self.centre = None
        self.uncentred = 0

    def lose_power(self):
        self.forget()
        # That blood stood still is a mark on the line itself, so this one outlives the power.
        self.latches = self.latches & STILL_LATCH

    def raise_latch(self, latch):
        self.latches = self.latches | latch

    def lower_latch(self, latch):
        self.latches = self.latches & ~latch

    def is_up(self, latch):
        return (self.latches & latch) > 0

    def latched(self):
        return self.latches > 0

    def sure(self):
        return self.clean == SURE

    def watch_air(self, first, second):
        reading = max(first, second)
        self.readings = ([reading] + self.readings)[:READINGS_KEPT]
        if reading < BAD_READING and sum(self.readings) < BAD_READINGS:
            self.clean = min(self.clean + 1, SURE)
        else:
            self.clean = 0
            self.raise_latch(AIR_LATCH)
        self.watch_channels(first, second)

    def watch_channels(self, first, second):
        if abs(first - second) > FAR_APART:
            self.unlike = min(self.unlike + 1, MOST_UNLIKE)
        else:
            self.unlike = 0
        if self.unlike == MOST_UNLIKE:
            self.raise_latch(UNLIKE_LATCH)

    def trust_channels(self):
        self.unlike = 0
        self.lower_latch(UNLIKE_LATCH)

    def watch_thickness(self, cell):
        if 1000 * cell[0] > 700 * (cell[0] + cell[1]):
            self.raise_latch(THICK_LATCH)

    def watch_centre(self, joined):
        if joined and self.centre is None:
            self.uncentred = min(self.uncentred + 1, MOST_UNCENTRED)
            if self.uncentred == MOST_UNCENTRED:
                self.raise_latch(UNCENTRED_LATCH)

    def watch_pressures(self, pressures, joined):
        if joined and self.bad_pressure(ARTERY, pressures[ARTERY]):
            self.raise_latch(ARTERY_LATCH)
        if joined and self.bad_pressure(VEIN, pressures[VEIN]):
            self.raise_latch(VEIN_LATCH)
        self.pressures = pressures

    def bad_pressure(self, which, pressure):
        if not in_bounds(which, pressure):
            return True
        return self.centre is not None and abs(pressure - self.centre[which]) > FAR_FROM_CENTRE

    # The same, of the last pressures; there may be none.
    def last_is_bad(self, which):
        return self.pressures is not None and self.bad_pressure(which, self.pressures[which])

    def set_centre(self):
        self.centre = self.pressures
        self.uncentred = 0

    def watch_leak(self, leaking):
        if leaking >= BAD_LEAK:
            self.streak = min(self.streak + 1, MOST_STREAK)
        else:
            self.streak = 0
        if self.streak == MOST_STREAK:
            self.raise_latch(LEAK_LATCH)

    def watch_standing(self, seconds, has_blood):
        if has_blood:
            self.still = min(self.still + seconds, MOST_STILL)
        else:
            self.still = 0
        if self.still > LONG_STILL:
            self.raise_latch(STILL_LATCH)

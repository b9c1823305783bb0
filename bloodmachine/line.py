"""The blood line: its cells (red, water, air), what feeds it, where it leads, its sensors."""

LENGTH = 16
DIALYSER = 4
TRAP = 8
DETECTOR = 11
FULL = 1000
TRAP_ROOM = 20000
AIR_CELL = (0, 0, 1000)

FROM_AIR = 0
FROM_BAG = 1
FROM_PATIENT = 2

TO_DRAIN = 0
TO_PATIENT = 1
LOOP = 2

ARTERY = 0
VEIN = 1


class Line:
    def __init__(self):
        self.cells = [AIR_CELL] * LENGTH
        self.trapped = 0
        self.source = FROM_AIR
        self.sink = TO_DRAIN
        self.haematocrit = 0
        self.bag = 0
        # The number that each channel is stuck at; None: it's true.
        self.stuck = [None, None]
        # The artery's needle, the vein's.
        self.slipped = [False, False]

    def push(self, cell):
        self.cells = [cell] + self.cells[:-1]

    def lay(self):
        self.cells = [AIR_CELL] * LENGTH
        self.sink = TO_DRAIN

    def take_water(self, wished):
        cell = self.cells[DIALYSER]
        taken = min(wished, cell[1])
        self.cells[DIALYSER] = (cell[0], cell[1] - taken, cell[2])
        return taken

    def trap_air(self):
        cell = self.cells[TRAP]
        caught = min(cell[2], TRAP_ROOM - self.trapped)
        self.cells[TRAP] = (cell[0], cell[1], cell[2] - caught)
        self.trapped += caught

    # Answers how much air it was.
    def empty_trap(self):
        vented = self.trapped
        self.trapped = 0
        return vented

    def has_red(self):
        return any([cell[0] > 0 for cell in self.cells])

    def channel_reading(self, channel):
        if self.stuck[channel] is None:
            return self.cells[DETECTOR][2]
        return self.stuck[channel]

    # 1 for channel 0, 2 for channel 1, 3 for both.
    def stuck_number(self):
        number = 0
        if self.stuck[0] is not None:
            number += 1
        if self.stuck[1] is not None:
            number += 2
        return number

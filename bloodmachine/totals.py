"""What came in and went out since the object was new. Threes are red, water, air."""

from bloodmachine.line import AIR_CELL, LENGTH

NOTHING = (0, 0, 0)


def added(first, second):
    return (first[0] + second[0], first[1] + second[1], first[2] + second[2])


class Totals:
    def __init__(self):
        self.from_patient = NOTHING
        self.from_bags = 0
        self.air_in = 0
        self.given_back = NOTHING
        self.spilt = NOTHING
        self.drained = NOTHING
        self.thrown_away = NOTHING
        self.taken = 0
        self.vented = 0
        self.moves = 0
        self.lines = 0
        self.count_line()

    def count_line(self):
        self.air_in += LENGTH * AIR_CELL[2]
        self.lines += 1

    def count_thrown_away(self, cells):
        for cell in cells:
            self.thrown_away = added(self.thrown_away, cell)

    def count_vented(self, air):
        self.vented += air

    def count_from_patient(self, cell):
        self.from_patient = added(self.from_patient, cell)

    def count_drained(self, cell):
        self.drained = added(self.drained, cell)

    def count_given_back(self, cell):
        self.given_back = added(self.given_back, cell)

    def count_spilt(self, cell):
        self.spilt = added(self.spilt, cell)

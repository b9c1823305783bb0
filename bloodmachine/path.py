"""The path on the dialyser's other side: the disinfectant in its cells and in its walls."""

LENGTH = 6
DISINFECTANT = 1000
SOAKED_PER_STEP = 20
MOST_IN_WALL = 2000


class Path:
    def __init__(self):
        self.cells = [0] * LENGTH
        self.wall = 0

    # Each of these three answers what the cell that leaves holds.
    def push(self, held):
        leaving = self.cells[-1]
        self.cells = [held] + self.cells[:-1]
        return leaving

    def flow(self):
        seeping = (self.wall + 7) // 8
        self.wall -= seeping
        return self.push(seeping)

    def soak(self):
        self.wall = min(self.wall + SOAKED_PER_STEP, MOST_IN_WALL)
        return self.push(DISINFECTANT)

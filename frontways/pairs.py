"""Pairs: sets of ties of which no point has two; full ones leave no point without."""

from frontways.tied import TiedPoints


class Pairs(TiedPoints):
    def __init__(self, full=False):
        self.full = full

    def allows(self, count):
        return count == 1 or (count == 0 and not self.full)

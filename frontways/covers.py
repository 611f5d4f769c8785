"""Covers: sets of ties of which each point of the web has one or more."""

from frontways.tied import TiedPoints


class Covers(TiedPoints):
    def allows(self, count):
        return count >= 1

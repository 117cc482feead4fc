"""The one object that a line's calls are made on."""

from cueshows.house import House
from cueshows.refusals import BUSY_OR_IDLE, SHOW_ON_OR_OFF

NO_ITEM = -1
NO_VALUE = -1


class Cue:
    """A cue on the wire."""

    def __init__(self, serial, number, value, age):
        self.serial = serial
        self.number = number
        self.value = value
        self.age = age


class Done:
    """An item that was done: its number, the value taken in it, whether it was rescued."""

    def __init__(self, number, taken, rescued):
        self.number = number
        self.taken = taken
        self.rescued = rescued


class Show:
    """A show that is on. The wire's row has the cues that were sent first in front."""

    def __init__(self, beliefs, actual):
        self.beliefs = beliefs
        self.actual = actual
        self.serial = 0
        self.done = []
        self.minutes = 0
        self.wire = []
        self.turn_to(NO_ITEM)

    def turn_to(self, number):
        """From now on this item is being done: no cue was sent or taken in it, and no tick has passed."""
        self.doing = number
        self.sent = 0
        self.ticks = 0
        self.taken = NO_VALUE


class Line:
    """The house, and the show; that is None while the show isn't on."""

    def __init__(self):
        self.house = House([2])
        self.show = None


def refusal_unless_doing(line):
    """The refusal of a call that needs an item being done, 0 if one is."""
    if line.show is None:
        return SHOW_ON_OR_OFF
    if line.show.doing == NO_ITEM:
        return BUSY_OR_IDLE
    return 0

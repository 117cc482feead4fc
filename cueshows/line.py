"""The one object that a line's calls are made on."""

from cueshows.house import House

NO_ITEM = -1


class Cue:
    """A cue on the wire."""

    def __init__(self, serial, number, value):
        self.serial = serial
        self.number = number
        self.value = value
        self.age = 0


class Show:
    """A show that is on. The wire's row has the cues that were sent first in front."""

    def __init__(self, beliefs, actual):
        self.beliefs = beliefs
        self.actual = actual
        self.doing = NO_ITEM
        self.serial = 0
        self.sent = 0
        self.done = []
        self.minutes = 0
        self.wire = []


class Line:
    """The house, and the show; that is None while the show isn't on."""

    def __init__(self):
        self.house = House([2])
        self.show = None

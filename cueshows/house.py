"""What is set up ahead of a show: props, tricks, resets, the hall."""

from cueshows.conditions import all_conditions

FIRST_RESET = 8
MOST_TRICKS = 8
MOST_RESETS = 6
LAST_ITEM = 13


class Item:
    """A trick or a reset. A reset never wants a cue, so it has the wait 0 and no rescue."""

    def __init__(self, minutes, wait, need, leave, rescue):
        self.minutes = minutes
        self.wait = wait
        self.need = need
        self.leave = leave
        self.rescue = rescue


class House:

    def __init__(self, props):
        self.props = props
        self.tricks = []
        self.resets = []
        self.limit = 0
        self.delay = 0
        self.beliefs = [all_conditions(count) for count in props]


def is_trick(number):
    return number < FIRST_RESET


def item_at(house, number):
    """The item told by a number from 0 to 13, None if there's no such item."""
    row = house.tricks if is_trick(number) else house.resets
    place = number if is_trick(number) else number - FIRST_RESET
    return row[place] if place < len(row) else None

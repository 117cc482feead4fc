"""The calls 7 to 9: start, begin, send."""

from cueshows.beliefs import is_sure
from cueshows.conditions import are_conditions, holds, within
from cueshows.house import LAST_ITEM, is_trick, item_at
from cueshows.line import NO_ITEM, Cue, Show
from cueshows.refusals import (
    BUSY_OR_IDLE, CANNOT_BE, FULL, NOT_SURE, NO_CUE_WANTED, NO_SUCH,
    OUT_OF_RANGE, OVER_LIMIT, SHOW_ON_OR_OFF, TRICK_WAS_DONE, WRONG_LIST,
)

MOST_VALUE = 99
MOST_CUES = 20


def answer_start(line, actual):
    house = line.house
    if not are_conditions(actual, house.props):
        return [WRONG_LIST]
    if not all([holds(belief, condition) for belief, condition in zip(house.beliefs, actual)]):
        return [CANNOT_BE]
    line.show = Show(list(house.beliefs), actual)
    return [0]


def refusal_of_begin(house, show, number):
    """Why the item can't be begun in this show, 0 if it can."""
    if show.doing != NO_ITEM:
        return BUSY_OR_IDLE
    item = item_at(house, number)
    if item is None:
        return NO_SUCH
    if is_trick(number) and number in show.done:
        return TRICK_WAS_DONE
    if not is_sure(item, show.beliefs):
        return NOT_SURE
    if show.minutes + item.minutes > house.limit:
        return OVER_LIMIT
    return 0


def answer_begin(line, number):
    show = line.show
    if not within(number, 0, LAST_ITEM):
        return [OUT_OF_RANGE]
    if show is None:
        return [SHOW_ON_OR_OFF]
    refusal = refusal_of_begin(line.house, show, number)
    if refusal != 0:
        return [refusal]
    show.doing = number
    show.sent = 0
    if not is_trick(number):
        return [0]
    show.serial += 1
    return [show.serial]


def answer_send(line, value):
    show = line.show
    if not within(value, 0, MOST_VALUE):
        return [OUT_OF_RANGE]
    if show is None:
        return [SHOW_ON_OR_OFF]
    if show.doing == NO_ITEM:
        return [BUSY_OR_IDLE]
    # A reset has the wait 0 as well.
    if item_at(line.house, show.doing).wait == 0:
        return [NO_CUE_WANTED]
    if len(show.wire) == MOST_CUES:
        return [FULL]
    show.sent += 1
    show.wire.append(Cue(show.serial, show.sent, value))
    return [show.sent]


def answer_show_call(line, call, numbers, rows):
    if call == 7:
        return answer_start(line, rows[0])
    if call == 8:
        return answer_begin(line, numbers[0])
    return answer_send(line, numbers[0])

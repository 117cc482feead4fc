"""The calls 7, 8, 14 and 19: start, begin, finish, close."""

from cueshows.beliefs import is_sure, left_by
from cueshows.conditions import are_conditions, holds, within
from cueshows.house import LAST_ITEM, is_trick, item_at
from cueshows.line import NO_ITEM, Done, Show, refusal_unless_doing
from cueshows.refusals import (
    BUSY_OR_IDLE, CANNOT_BE, NOT_AT_ITS_END, NOT_SURE, NO_SUCH,
    OUT_OF_RANGE, OVER_LIMIT, SHOW_ON_OR_OFF, TRICK_WAS_DONE, WRONG_LIST,
)
from cueshows.rescue import is_rescued, waits_for_cue, way_taken


def answer_start(line, actual):
    house = line.house
    if not are_conditions(actual, house.props):
        return [WRONG_LIST]
    if not all([holds(belief, condition) for belief, condition in zip(house.beliefs, actual)]):
        return [CANNOT_BE]
    line.show = Show(list(house.beliefs), actual)
    return [0]


def was_done(show, number):
    return any([done.number == number for done in show.done])


def refusal_of_begin(house, show, number):
    """Why the item can't be begun in this show, 0 if it can."""
    if show.doing != NO_ITEM:
        return BUSY_OR_IDLE
    item = item_at(house, number)
    if item is None:
        return NO_SUCH
    if is_trick(number) and was_done(show, number):
        return TRICK_WAS_DONE
    if not is_sure(item, show.beliefs):
        return NOT_SURE
    if show.minutes + item.minutes > house.limit:
        return OVER_LIMIT
    return 0


def answer_begin(line, number):
    show = line.show
    if not within(number, 0, LAST_ITEM):
        return [OUT_OF_RANGE]
    if show is None:
        return [SHOW_ON_OR_OFF]
    refusal = refusal_of_begin(line.house, show, number)
    if refusal != 0:
        return [refusal]
    show.turn_to(number)
    if not is_trick(number):
        return [0]
    show.serial += 1
    return [show.serial]


def can_be_left(leave, before, actual):
    """Whether each condition is in its leaving set, or, where that's 0, what it was before."""
    return all([was == now if left == 0 else holds(left, now) for left, was, now in zip(leave, before, actual)])


def answer_finish(line, actual):
    house = line.house
    show = line.show
    if not are_conditions(actual, house.props):
        return [WRONG_LIST]
    refusal = refusal_unless_doing(line)
    if refusal != 0:
        return [refusal]
    if waits_for_cue(house, show):
        return [NOT_AT_ITS_END]
    leave = way_taken(house, show)
    if not can_be_left(leave, show.actual, actual):
        return [CANNOT_BE]
    rescued = is_rescued(house, show)
    show.actual = actual
    show.beliefs = left_by(leave, show.beliefs)
    show.minutes += item_at(house, show.doing).minutes
    show.done.append(Done(show.doing, show.taken, rescued))
    show.turn_to(NO_ITEM)
    return [1 if rescued else 0]


def answer_close(line):
    if line.show is None:
        return [SHOW_ON_OR_OFF]
    count = len(line.show.done)
    line.show = None
    return [count]


def answer_show_call(line, call, numbers, rows):
    if call == 7:
        return answer_start(line, rows[0])
    if call == 8:
        return answer_begin(line, numbers[0])
    if call == 14:
        return answer_finish(line, rows[0])
    return answer_close(line)

"""The calls 0 to 4: props, trick, reset, hall, told."""

from cueshows.conditions import all_within, are_sets, within
from cueshows.house import MOST_RESETS, MOST_TRICKS, House, Item
from cueshows.refusals import FULL, OUT_OF_RANGE, SHOW_ON_OR_OFF, WRONG_LIST

MOST_PROPS = 4
LEAST_CONDITIONS = 2
MOST_CONDITIONS = 6
MOST_MINUTES = 60
MOST_WAIT = 20
MOST_LIMIT = 480
MOST_DELAY = 20


def answer_props(line, props):
    if not within(len(props), 1, MOST_PROPS) or not all_within(props, LEAST_CONDITIONS, MOST_CONDITIONS):
        return [WRONG_LIST]
    if line.show is not None:
        return [SHOW_ON_OR_OFF]
    line.house = House(props)
    return [len(props)]


def answer_trick(line, minutes, wait, need, leave, rescue):
    house = line.house
    if not within(minutes, 1, MOST_MINUTES) or not within(wait, 0, MOST_WAIT):
        return [OUT_OF_RANGE]
    if not are_sets(need, house.props, 1) or not are_sets(leave, house.props, 0):
        return [WRONG_LIST]
    if not are_sets(rescue, house.props, 0):
        return [WRONG_LIST]
    if line.show is not None:
        return [SHOW_ON_OR_OFF]
    if len(house.tricks) == MOST_TRICKS:
        return [FULL]
    house.tricks.append(Item(minutes, wait, need, leave, rescue))
    return [len(house.tricks) - 1]


def answer_reset(line, minutes, need, leave):
    house = line.house
    if not within(minutes, 1, MOST_MINUTES):
        return [OUT_OF_RANGE]
    if not are_sets(need, house.props, 1) or not are_sets(leave, house.props, 0):
        return [WRONG_LIST]
    if line.show is not None:
        return [SHOW_ON_OR_OFF]
    if len(house.resets) == MOST_RESETS:
        return [FULL]
    house.resets.append(Item(minutes, 0, need, leave, []))
    return [len(house.resets) - 1]


def answer_hall(line, limit, delay, beliefs):
    house = line.house
    if not within(limit, 0, MOST_LIMIT) or not within(delay, 0, MOST_DELAY):
        return [OUT_OF_RANGE]
    if not are_sets(beliefs, house.props, 1):
        return [WRONG_LIST]
    if line.show is not None:
        return [SHOW_ON_OR_OFF]
    house.limit = limit
    house.delay = delay
    house.beliefs = beliefs
    return [0]


def answer_told(line):
    house = line.house
    told = [len(house.props)] + house.props
    told.append(len(house.tricks))
    for item in house.tricks:
        told.extend([item.minutes, item.wait] + item.need + item.leave + item.rescue)
    told.append(len(house.resets))
    for item in house.resets:
        told.extend([item.minutes] + item.need + item.leave)
    return told + [house.limit, house.delay] + house.beliefs


def answer_setup_call(line, call, numbers, rows):
    if call == 0:
        return answer_props(line, rows[0])
    if call == 1:
        return answer_trick(line, numbers[0], numbers[1], rows[0], rows[1], rows[2])
    if call == 2:
        return answer_reset(line, numbers[0], rows[0], rows[1])
    if call == 3:
        return answer_hall(line, numbers[0], numbers[1], rows[0])
    return answer_told(line)

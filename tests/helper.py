"""Builders of calls, and the answers split call by call."""

from cueshows.shows import answers

HUGE = 10 ** 18


def row(numbers):
    return [len(numbers)] + list(numbers)


def props(conditions):
    return [0] + row(conditions)


def trick(minutes, wait, need, leave, rescue):
    return [1, minutes, wait] + row(need) + row(leave) + row(rescue)


def reset(minutes, need, leave):
    return [2, minutes] + row(need) + row(leave)


def hall(limit, delay, beliefs):
    return [3, limit, delay] + row(beliefs)


def told():
    return [4]


def runs(order):
    return [5] + row(order)


def plan(steps):
    return [6, steps]


def start(actual):
    return [7] + row(actual)


def begin(item):
    return [8, item]


def send(value):
    return [9, value]


def lose(place):
    return [10, place]


def double(place):
    return [11, place]


def deliver(place):
    return [12, place]


def tick(ticks):
    return [13, ticks]


def finish(actual):
    return [14] + row(actual)


def glance(prop):
    return [15, prop]


def state():
    return [16]


def log():
    return [17]


def wire():
    return [18]


def close():
    return [19]


def joined(calls):
    return [number for call in calls for number in call]


def split(given):
    """The answers one by one; the counts ahead of them must fit to the last number."""
    found = []
    at = 0
    while at < len(given):
        count = given[at]
        answer = given[at + 1:at + 1 + count]
        if count < 1 or len(answer) != count:
            raise AssertionError("a count that doesn't fit at %d of %r" % (at, given))
        found.append(answer)
        at += 1 + count
    return found


def ask(*calls):
    """The answers of these calls on a new line, a list for each call."""
    given = answers(joined(calls))
    for number in given:
        if type(number) is not int:
            raise AssertionError("%r is no whole number" % (number,))
    found = split(given)
    if len(found) != len(calls):
        raise AssertionError("%d calls, %d answers" % (len(calls), len(found)))
    return found


def last(*calls):
    return ask(*calls)[-1]


def behind(before, *calls):
    """The answers of these calls alone, behind those of the list before."""
    return ask(*(list(before) + list(calls)))[len(before):]


def all_seen(before, props_there=0):
    """All that can be asked behind these calls: first what changes nothing, then each prop's actual condition."""
    return behind(before, state(), log(), wire(), told(), *[glance(prop) for prop in range(props_there)])

"""The calls 9 to 13: send, lose, double, deliver, tick."""

from cueshows.conditions import within
from cueshows.line import Cue, refusal_unless_doing
from cueshows.refusals import FULL, NO_CUE_AT_PLACE, NO_CUE_WANTED, OUT_OF_RANGE
from cueshows.rescue import is_rescued, waits_for_cue, wants_cue

MOST_VALUE = 99
MOST_CUES = 20
MOST_TICKS = 30


def answer_send(line, value):
    show = line.show
    if not within(value, 0, MOST_VALUE):
        return [OUT_OF_RANGE]
    refusal = refusal_unless_doing(line)
    if refusal != 0:
        return [refusal]
    if not wants_cue(line.house, show):
        return [NO_CUE_WANTED]
    if len(show.wire) == MOST_CUES:
        return [FULL]
    show.sent += 1
    show.wire.append(Cue(show.serial, show.sent, value, 0))
    return [show.sent]


def refusal_of_place(line, place):
    """Why no cue at this place of the row can be told of, 0 if one can."""
    if not within(place, 0, MOST_CUES - 1):
        return OUT_OF_RANGE
    refusal = refusal_unless_doing(line)
    if refusal != 0:
        return refusal
    return 0 if place < len(line.show.wire) else NO_CUE_AT_PLACE


def answer_lose(line, place):
    refusal = refusal_of_place(line, place)
    if refusal != 0:
        return [refusal]
    line.show.wire.pop(place)
    return [len(line.show.wire)]


def answer_double(line, place):
    refusal = refusal_of_place(line, place)
    if refusal != 0:
        return [refusal]
    wire = line.show.wire
    if len(wire) == MOST_CUES:
        return [FULL]
    cue = wire[place]
    # A cue of its own, since the two grow older each by itself.
    wire.insert(place + 1, Cue(cue.serial, cue.number, cue.value, cue.age))
    return [len(wire)]


def answer_deliver(line, place):
    refusal = refusal_of_place(line, place)
    if refusal != 0:
        return [refusal]
    show = line.show
    cue = show.wire.pop(place)
    if cue.serial != show.serial or not waits_for_cue(line.house, show):
        return [0]
    show.taken = cue.value
    return [1, cue.value]


def answer_tick(line, ticks):
    if not within(ticks, 1, MOST_TICKS):
        return [OUT_OF_RANGE]
    refusal = refusal_unless_doing(line)
    if refusal != 0:
        return [refusal]
    show = line.show
    show.ticks += ticks
    for cue in show.wire:
        cue.age += ticks
    show.wire = [cue for cue in show.wire if cue.age <= line.house.delay]
    return [1 if is_rescued(line.house, show) else 0, len(show.wire)]


def answer_cue_call(line, call, numbers):
    if call == 9:
        return answer_send(line, numbers[0])
    if call == 10:
        return answer_lose(line, numbers[0])
    if call == 11:
        return answer_double(line, numbers[0])
    if call == 12:
        return answer_deliver(line, numbers[0])
    return answer_tick(line, numbers[0])

"""The calls 15 to 18: glance, state, log, wire."""

from cueshows.conditions import POWERS, within
from cueshows.refusals import NO_SUCH, OUT_OF_RANGE, SHOW_ON_OR_OFF
from cueshows.rescue import is_rescued

LAST_PROP = 3


def answer_glance(line, prop):
    show = line.show
    if not within(prop, 0, LAST_PROP):
        return [OUT_OF_RANGE]
    if show is None:
        return [SHOW_ON_OR_OFF]
    if prop >= len(show.actual):
        return [NO_SUCH]
    show.beliefs[prop] = POWERS[show.actual[prop]]
    return [show.actual[prop]]


def answer_state(line):
    show = line.show
    if show is None:
        return [SHOW_ON_OR_OFF]
    rescued = 1 if is_rescued(line.house, show) else 0
    return [show.doing, show.serial, show.ticks, show.taken, rescued, show.minutes] + show.beliefs


def answer_log(line):
    show = line.show
    if show is None:
        return [SHOW_ON_OR_OFF]
    log = [len(show.done)]
    for done in show.done:
        log.extend([done.number, done.taken, 1 if done.rescued else 0])
    return log


def answer_wire(line):
    show = line.show
    if show is None:
        return [SHOW_ON_OR_OFF]
    wire = [len(show.wire)]
    for cue in show.wire:
        wire.extend([cue.serial, cue.number, cue.value, cue.age])
    return wire


def answer_look_call(line, call, numbers):
    if call == 15:
        return answer_glance(line, numbers[0])
    if call == 16:
        return answer_state(line)
    if call == 17:
        return answer_log(line)
    return answer_wire(line)

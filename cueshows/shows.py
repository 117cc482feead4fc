"""The calls of a line, one behind another, and what they answer."""

from cueshows.cue_calls import answer_cue_call
from cueshows.line import Line
from cueshows.look_calls import answer_look_call
from cueshows.plan_calls import answer_plan_call
from cueshows.setup_calls import answer_setup_call
from cueshows.show_calls import answer_show_call

LAST_SETUP_CALL = 4
LAST_PLAN_CALL = 6
CUE_CALLS = (9, 10, 11, 12, 13)
LOOK_CALLS = (15, 16, 17, 18)

# Of each call how many whole numbers it has, and how many rows behind them.
SHAPES = {
    0: (0, 1),
    1: (2, 3),
    2: (1, 2),
    3: (2, 1),
    4: (0, 0),
    5: (0, 1),
    6: (1, 0),
    7: (0, 1),
    8: (1, 0),
    9: (1, 0),
    10: (1, 0),
    11: (1, 0),
    12: (1, 0),
    13: (1, 0),
    14: (0, 1),
    15: (1, 0),
    16: (0, 0),
    17: (0, 0),
    18: (0, 0),
    19: (0, 0),
}


class Reader:
    """Goes through the numbers handed in without changing them."""

    def __init__(self, calls):
        self.calls = calls
        self.place = 0

    def at_end(self):
        return self.place == len(self.calls)

    def take(self):
        number = self.calls[self.place]
        self.place += 1
        return number

    def take_row(self):
        begin = self.place + 1
        end = begin + self.calls[self.place]
        self.place = end
        return self.calls[begin:end]


def answer_call(line, call, numbers, rows):
    if call <= LAST_SETUP_CALL:
        return answer_setup_call(line, call, numbers, rows)
    if call <= LAST_PLAN_CALL:
        return answer_plan_call(line, call, numbers, rows)
    if call in CUE_CALLS:
        return answer_cue_call(line, call, numbers)
    if call in LOOK_CALLS:
        return answer_look_call(line, call, numbers)
    return answer_show_call(line, call, numbers, rows)


def answers(calls):
    line = Line()
    reader = Reader(calls)
    given = []
    while not reader.at_end():
        call = reader.take()
        shape = SHAPES[call]
        numbers = [reader.take() for turn in range(shape[0])]
        rows = [reader.take_row() for turn in range(shape[1])]
        answer = answer_call(line, call, numbers, rows)
        given.append(len(answer))
        given.extend(answer)
    return given

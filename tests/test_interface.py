"""What is handed in stays as it is, and nothing is kept from one time to the next."""

import inspect
import time
import unittest

from helper import (
    ask, begin, close, deliver, double, finish, glance, hall, joined, log, lose, plan, props, reset, runs, send, start,
    state, tick, told, trick, wire,
)
from cueshows import shows
from cueshows.shows import answers

WHOLE_LINE = [
    told(),
    props([3, 2]),
    trick(4, 2, [1, 3], [2, 0], [4, 0]),
    trick(5, 0, [1, 1], [1, 2], [0, 0]),
    reset(3, [7, 3], [1, 1]),
    hall(20, 3, [1, 3]),
    told(),
    runs([0, 8, 1]),
    runs([1]),
    plan(200),
    plan(0),
    start([0, 1]),
    begin(1),
    begin(0),
    send(42),
    send(43),
    props([2]),
    told(),
    double(1),
    tick(1),
    wire(),
    lose(0),
    deliver(1),
    state(),
    finish([2, 1]),
    finish([1, 1]),
    begin(8),
    glance(0),
    glance(1),
    finish([0, 0]),
    log(),
    state(),
    close(),
    state(),
]

WHOLE_ANSWERS = [
    7, 1, 2, 0, 0, 0, 0, 3,
    1, 2,
    1, 0,
    1, 1,
    1, 0,
    1, 0,
    30, 2, 3, 2, 2, 4, 2, 1, 3, 2, 0, 4, 0, 5, 0, 1, 1, 1, 2, 0, 0, 1, 3, 7, 3, 1, 1, 20, 3, 1, 3,
    5, 1, 12, 1, 1, 2,
    3, 0, 0, 3,
    6, 1, 12, 3, 0, 8, 1,
    1, 2,
    1, 0,
    1, -10,
    1, 1,
    1, 1,
    1, 2,
    1, -3,
    30, 2, 3, 2, 2, 4, 2, 1, 3, 2, 0, 4, 0, 5, 0, 1, 1, 1, 2, 0, 0, 1, 3, 7, 3, 1, 1, 20, 3, 1, 3,
    1, 3,
    2, 0, 3,
    13, 3, 1, 1, 42, 1, 1, 2, 43, 1, 1, 2, 43, 1,
    1, 2,
    2, 1, 43,
    8, 0, 1, 1, 43, 0, 0, 1, 3,
    1, -8,
    1, 0,
    1, 0,
    1, 1,
    1, 1,
    1, 0,
    7, 2, 0, 43, 0, 8, -1, 0,
    8, -1, 1, 0, -1, 0, 7, 1, 1,
    1, 2,
    1, -3,
]


class WatchedList(list):
    """A list that can't be changed, not for a while either."""

    def refuse(self, *given, **named):
        raise AssertionError("what is handed in is changed")

    __setitem__ = __delitem__ = __iadd__ = __imul__ = refuse
    append = extend = insert = pop = remove = clear = sort = reverse = refuse


class Interface(unittest.TestCase):

    def test_the_numbers_given_back_whole(self):
        self.assertEqual(answers(joined(WHOLE_LINE)), WHOLE_ANSWERS)

    def test_the_argument_has_its_name(self):
        self.assertEqual(list(inspect.signature(shows.answers).parameters), ["calls"])
        self.assertEqual(answers(calls=[4]), [7, 1, 2, 0, 0, 0, 0, 3])

    def test_what_is_handed_in_is_the_same_behind_the_call(self):
        calls = joined(WHOLE_LINE)
        before = list(calls)
        answers(calls)
        self.assertEqual(calls, before)

    def test_what_is_handed_in_is_not_changed_for_a_while(self):
        self.assertEqual(answers(WatchedList(joined(WHOLE_LINE))), WHOLE_ANSWERS)

    def test_a_second_time_gives_the_same(self):
        calls = joined(WHOLE_LINE)
        first = answers(calls)
        answers(joined([props([6]), hall(9, 9, [1]), start([0])]))
        self.assertEqual(answers(calls), first)

    def test_what_is_given_back_is_not_kept(self):
        calls = joined(WHOLE_LINE)
        first = answers(calls)
        first[:] = [0] * len(first)
        self.assertEqual(answers(calls), WHOLE_ANSWERS)

    def test_each_number_is_an_int(self):
        given = answers(joined(WHOLE_LINE))
        self.assertIs(type(given), list)
        self.assertEqual({type(number) for number in given}, {int})

    def test_200_calls(self):
        full = trick(60, 20, [63] * 4, [63] * 4, [63] * 4)
        calls = [props([6] * 4)] + [full] * 8 + [told()] * 191
        found = ask(*calls)
        self.assertEqual(len(found), 200)
        self.assertEqual(found[-1], [4, 6, 6, 6, 6, 8] + ([60, 20] + [63] * 12) * 8 + [0, 0, 0] + [63] * 4)

    def test_200_calls_with_20_plans_of_200_steps_and_shows(self):
        full = [63, 63, 63, 63]
        calls = [props([6, 6, 6, 6])]
        for number in range(8):
            calls.append(trick(7 + number, 3, full, [1 << number % 6, 3, 0, 7], [0, 1 << number % 5, 9, 0]))
        for number in range(6):
            calls.append(reset(1 + number, full, [1 << number, 0, 1 << 5 - number, 0]))
        calls += [hall(480, 20, full), start([5, 4, 3, 2]), begin(7)] + [send(1)] * 20
        calls += [plan(200), state(), wire(), tick(1), log(), told(), double(0), glance(3)] * 20
        begun = time.monotonic()
        found = ask(*(calls + [close()] + [wire()]))
        self.assertLess(time.monotonic() - begun, 20)
        self.assertEqual(len(found), 200)
        self.assertEqual(found[38::8][:20], [[2]] * 20)
        self.assertEqual(found[-2:], [[0], [-3]])

    def test_lists_of_30_that_are_refused_are_read_to_their_end(self):
        long = list(range(30))
        found = ask(*([trick(1, 1, long, long, long), reset(1, long, long), hall(1, 1, long), props(long),
                       runs(long), start(long), finish(long)] * 20 + [told()]))
        self.assertEqual(found, [[-2]] * 140 + [[1, 2, 0, 0, 0, 0, 3]])


if __name__ == "__main__":
    unittest.main()

"""What is handed in stays as it is, and nothing is kept from one time to the next."""

import inspect
import unittest

from helper import ask, begin, hall, joined, plan, props, reset, runs, send, start, told, trick
from cueshows import shows
from cueshows.shows import answers

WHOLE_LINE = [
    told(),
    props([3, 2]),
    trick(4, 2, [1, 3], [2, 0], [4, 0]),
    trick(5, 0, [1, 1], [1, 2], [0, 0]),
    reset(3, [7, 3], [1, 1]),
    hall(20, 3, [1, 3]),
    told(),
    runs([0, 8, 1]),
    runs([1]),
    plan(200),
    plan(0),
    start([0, 1]),
    begin(1),
    begin(0),
    send(42),
    send(43),
    props([2]),
    told(),
]

WHOLE_ANSWERS = [
    7, 1, 2, 0, 0, 0, 0, 3,
    1, 2,
    1, 0,
    1, 1,
    1, 0,
    1, 0,
    30, 2, 3, 2, 2, 4, 2, 1, 3, 2, 0, 4, 0, 5, 0, 1, 1, 1, 2, 0, 0, 1, 3, 7, 3, 1, 1, 20, 3, 1, 3,
    5, 1, 12, 1, 1, 2,
    3, 0, 0, 3,
    6, 1, 12, 3, 0, 8, 1,
    1, 2,
    1, 0,
    1, -10,
    1, 1,
    1, 1,
    1, 2,
    1, -3,
    30, 2, 3, 2, 2, 4, 2, 1, 3, 2, 0, 4, 0, 5, 0, 1, 1, 1, 2, 0, 0, 1, 3, 7, 3, 1, 1, 20, 3, 1, 3,
]


class WatchedList(list):
    """A list that can't be changed, not for a while either."""

    def refuse(self, *given, **named):
        raise AssertionError("what is handed in is changed")

    __setitem__ = __delitem__ = __iadd__ = __imul__ = refuse
    append = extend = insert = pop = remove = clear = sort = reverse = refuse


class Interface(unittest.TestCase):

    def test_the_numbers_given_back_whole(self):
        self.assertEqual(answers(joined(WHOLE_LINE)), WHOLE_ANSWERS)

    def test_the_argument_has_its_name(self):
        self.assertEqual(list(inspect.signature(shows.answers).parameters), ["calls"])
        self.assertEqual(answers(calls=[4]), [7, 1, 2, 0, 0, 0, 0, 3])

    def test_what_is_handed_in_is_the_same_behind_the_call(self):
        calls = joined(WHOLE_LINE)
        before = list(calls)
        answers(calls)
        self.assertEqual(calls, before)

    def test_what_is_handed_in_is_not_changed_for_a_while(self):
        self.assertEqual(answers(WatchedList(joined(WHOLE_LINE))), WHOLE_ANSWERS)

    def test_a_second_time_gives_the_same(self):
        calls = joined(WHOLE_LINE)
        first = answers(calls)
        answers(joined([props([6]), hall(9, 9, [1]), start([0])]))
        self.assertEqual(answers(calls), first)

    def test_what_is_given_back_is_not_kept(self):
        calls = joined(WHOLE_LINE)
        first = answers(calls)
        first[:] = [0] * len(first)
        self.assertEqual(answers(calls), WHOLE_ANSWERS)

    def test_each_number_is_an_int(self):
        given = answers(joined(WHOLE_LINE))
        self.assertIs(type(given), list)
        self.assertEqual({type(number) for number in given}, {int})

    def test_200_calls(self):
        full = trick(60, 20, [63] * 4, [63] * 4, [63] * 4)
        calls = [props([6] * 4)] + [full] * 8 + [told()] * 191
        found = ask(*calls)
        self.assertEqual(len(found), 200)
        self.assertEqual(found[-1], [4, 6, 6, 6, 6, 8] + ([60, 20] + [63] * 12) * 8 + [0, 0, 0] + [63] * 4)

    def test_lists_of_30_that_are_refused_are_read_to_their_end(self):
        long = list(range(30))
        found = ask(*([trick(1, 1, long, long, long), reset(1, long, long), hall(1, 1, long), props(long),
                       runs(long), start(long)] * 20 + [told()]))
        self.assertEqual(found, [[-2]] * 120 + [[1, 2, 0, 0, 0, 0, 3]])


if __name__ == "__main__":
    unittest.main()

"""props, trick, reset, hall, told with ordinary inputs, and their limits."""

import unittest

from helper import ask, begin, hall, last, plan, props, reset, runs, start, told, trick
from cueshows.shows import answers


class LineBeginning(unittest.TestCase):

    def test_told_at_the_beginning(self):
        self.assertEqual(answers([4]), [7, 1, 2, 0, 0, 0, 0, 3])

    def test_the_show_is_not_on(self):
        self.assertEqual(ask(begin(0)), [[-3]])

    def test_runs_and_plan_of_nothing(self):
        self.assertEqual(ask(runs([]), plan(0)), [[1, 0, 1, 3], [1, 0, 0]])


class Props(unittest.TestCase):

    def test_answers_how_many(self):
        for conditions in ([2], [6], [2, 6], [3, 4, 5], [6, 6, 6, 6], [2, 2, 2, 2]):
            with self.subTest(conditions=conditions):
                beliefs = [2 ** count - 1 for count in conditions]
                self.assertEqual(ask(props(conditions), told()), [
                    [len(conditions)],
                    [len(conditions)] + conditions + [0, 0, 0, 0] + beliefs,
                ])

    def test_all_begins_anew(self):
        found = ask(
            props([3, 2]),
            trick(5, 2, [1, 1], [2, 0], [4, 2]),
            reset(3, [7, 3], [1, 0]),
            hall(100, 7, [1, 2]),
            props([3, 2]),
            told(),
            trick(1, 0, [1, 1], [0, 0], [0, 0]),
            reset(1, [1, 1], [0, 0]),
        )
        self.assertEqual(found[4:], [[2], [2, 3, 2, 0, 0, 0, 0, 7, 3], [0], [0]])

    def test_a_refused_props_changes_nothing(self):
        found = ask(
            trick(5, 2, [1], [2], [0]), reset(3, [3], [1]), hall(9, 8, [1]),
            told(), props([2, 7]), told(),
        )
        self.assertEqual(found[4], [-2])
        self.assertEqual(found[5], found[3])

    def test_ranges_of_sets_follow_the_new_props(self):
        self.assertEqual(
            ask(hall(0, 0, [4]), props([3]), hall(0, 0, [4]), props([2]), hall(0, 0, [4]), hall(0, 0, [3])),
            [[-2], [1], [0], [1], [-2], [0]])


class TrickAndReset(unittest.TestCase):

    def test_numbers_as_they_came(self):
        found = ask(
            trick(1, 0, [1], [1], [1]), reset(1, [1], [1]), trick(60, 20, [3], [0], [0]),
            reset(60, [3], [3]), reset(2, [2], [0]), trick(30, 1, [2], [3], [3]),
        )
        self.assertEqual(found, [[0], [0], [1], [1], [2], [2]])

    def test_eight_tricks_and_no_more(self):
        one = trick(1, 0, [1], [1], [1])
        found = ask(*([one] * 9 + [told(), one, reset(1, [1], [1])]))
        self.assertEqual(found[:9], [[0], [1], [2], [3], [4], [5], [6], [7], [-7]])
        self.assertEqual(found[9], [1, 2, 8] + [1, 0, 1, 1, 1] * 8 + [0, 0, 0, 3])
        self.assertEqual(found[10:], [[-7], [0]])

    def test_six_resets_and_no_more(self):
        one = reset(2, [1], [0])
        found = ask(*([one] * 7 + [told(), one, trick(1, 0, [1], [1], [1])]))
        self.assertEqual(found[:7], [[0], [1], [2], [3], [4], [5], [-7]])
        self.assertEqual(found[7], [1, 2, 0, 6] + [2, 1, 0] * 6 + [0, 0, 3])
        self.assertEqual(found[8:], [[-7], [0]])

    def test_props_makes_room_again(self):
        one = trick(1, 0, [1], [1], [1])
        two = reset(1, [1], [1])
        found = ask(*([one] * 8 + [two] * 6 + [props([2]), one, two]))
        self.assertEqual(found[-3:], [[1], [0], [0]])


class HallAndTold(unittest.TestCase):

    def test_hall_answers_0_and_is_told(self):
        self.assertEqual(ask(hall(480, 20, [2]), told(), hall(0, 0, [1]), told()), [
            [0], [1, 2, 0, 0, 480, 20, 2], [0], [1, 2, 0, 0, 0, 0, 1]])

    def test_told_whole(self):
        found = ask(
            props([2, 3, 6]),
            trick(11, 4, [1, 2, 3], [0, 5, 6], [3, 7, 0]),
            reset(12, [2, 4, 63], [1, 0, 33]),
            trick(13, 0, [3, 6, 9], [2, 0, 12], [0, 0, 0]),
            reset(14, [1, 1, 1], [0, 0, 0]),
            hall(77, 5, [1, 4, 48]),
            told(),
        )
        self.assertEqual(found, [
            [3], [0], [0], [1], [1], [0],
            [3, 2, 3, 6,
             2,
             11, 4, 1, 2, 3, 0, 5, 6, 3, 7, 0,
             13, 0, 3, 6, 9, 2, 0, 12, 0, 0, 0,
             2,
             12, 2, 4, 63, 1, 0, 33,
             14, 1, 1, 1, 0, 0, 0,
             77, 5, 1, 4, 48],
        ])

    def test_told_while_the_show_is_on_tells_the_beginning_beliefs(self):
        found = ask(hall(5, 1, [2]), trick(1, 0, [2], [1], [0]), start([1]), begin(0), told())
        self.assertEqual(found[2:], [[0], [1], [1, 2, 1, 1, 0, 2, 1, 0, 0, 5, 1, 2]])

    def test_beginning_beliefs_are_what_runs_begins_with(self):
        self.assertEqual(last(hall(0, 0, [2]), runs([])), [1, 0, 1, 2])


if __name__ == "__main__":
    unittest.main()

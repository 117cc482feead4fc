"""glance, state, log, wire."""

import unittest

from helper import (
    begin, behind, deliver, finish, glance, hall, last, log, props, reset, send, start, state, tick, trick, wire,
)
from cueshows.shows import answers


class Glance(unittest.TestCase):

    SET_UP = [
        props([3, 2, 6]),
        trick(4, 0, [2, 3, 63], [0, 1, 12], [0, 0, 0]),
        trick(4, 2, [7, 3, 63], [0, 0, 0], [5, 2, 0]),
        reset(2, [7, 3, 63], [1, 0, 32]),
        hall(30, 5, [7, 3, 56]),
    ]

    def on(self, actual):
        return self.SET_UP + [start(actual)]

    def test_while_no_item_is_being_done(self):
        for actual in ([0, 0, 3], [1, 1, 4], [2, 0, 5]):
            with self.subTest(actual=actual):
                sets = [2 ** condition for condition in actual]
                self.assertEqual(behind(self.on(actual), state(), glance(0), state(), glance(2), state(), glance(1),
                                        state()), [
                    [-1, 0, 0, -1, 0, 0, 7, 3, 56], actual[:1], [-1, 0, 0, -1, 0, 0, sets[0], 3, 56],
                    actual[2:], [-1, 0, 0, -1, 0, 0, sets[0], 3, sets[2]],
                    actual[1:2], [-1, 0, 0, -1, 0, 0] + sets])

    def test_while_an_item_is_being_done_it_is_as_it_was_before(self):
        for item, serial in ((1, 1), (8, 0)):
            with self.subTest(item=item):
                self.assertEqual(behind(self.on([2, 1, 5]), begin(item), tick(2), glance(0), glance(2), state())[2:],
                                 [[2], [5], [item, serial, 2, -1, 1 if item == 1 else 0, 0, 4, 3, 32]])

    def test_behind_an_item_it_is_what_finish_said(self):
        self.assertEqual(behind(self.on([2, 1, 4]), begin(8), glance(0), glance(2), finish([0, 1, 5]), state(),
                                glance(0), glance(1), glance(2), state())[1:],
                         [[2], [4], [0], [-1, 0, 0, -1, 0, 2, 1, 3, 32], [0], [1], [5], [-1, 0, 0, -1, 0, 2, 1, 2, 32]])

    def test_a_second_time_answers_the_same(self):
        found = behind(self.on([1, 0, 3]), glance(1), state(), glance(1), glance(1), state())
        self.assertEqual(found, [[0], found[1], [0], [0], found[1]])

    def test_begin_goes_by_it(self):
        self.assertEqual(behind(self.on([1, 0, 3]), begin(0), glance(1), glance(2), begin(0), glance(0), begin(0)),
                         [[-10], [0], [3], [-10], [1], [1]])
        self.assertEqual(behind(self.on([2, 0, 3]), begin(0), glance(0), begin(0)), [[-10], [2], [-10]])

    def test_finish_goes_by_it(self):
        before = self.on([1, 0, 3]) + [begin(1)]
        cue = [send(6), deliver(0)]
        self.assertEqual(behind(before + cue, glance(0), finish([1, 0, 3]), state(), begin(0)),
                         [[1], [0], [-1, 1, 0, -1, 0, 4, 2, 3, 56], [2]])
        self.assertEqual(behind(before + cue, finish([1, 0, 3]), state(), begin(0)),
                         [[0], [-1, 1, 0, -1, 0, 4, 7, 3, 56], [-10]])
        self.assertEqual(behind(before, glance(0), glance(2), tick(2), finish([2, 1, 3]), state())[3:],
                         [[1], [-1, 1, 0, -1, 0, 4, 5, 2, 8]])

    def test_no_such_prop(self):
        for conditions in ([2], [2, 2], [2, 2, 2], [2, 2, 2, 2]):
            there = len(conditions)
            for prop in range(4):
                with self.subTest(conditions=conditions, prop=prop):
                    found = behind([props(conditions), start([1] * there)], glance(prop), state())
                    self.assertEqual(found[0], [1] if prop < there else [-4])
                    beliefs = [2 if place == prop else 3 for place in range(there)]
                    self.assertEqual(found[1], [-1, 0, 0, -1, 0, 0] + beliefs)

    def test_the_beginning_beliefs_stay(self):
        self.assertEqual(behind(self.on([1, 0, 3]), glance(0), glance(1), start([2, 1, 5]), state())[3],
                         [-1, 0, 0, -1, 0, 0, 7, 3, 56])


class State(unittest.TestCase):

    SET_UP = [
        props([3, 2]),
        trick(4, 3, [7, 3], [1, 0], [6, 1]),
        trick(5, 0, [7, 3], [0, 2], [0, 0]),
        reset(2, [7, 3], [3, 0]),
        hall(30, 5, [6, 3]),
        start([2, 1]),
    ]

    def test_nothing_was_begun_yet(self):
        self.assertEqual(behind(self.SET_UP, state()), [[-1, 0, 0, -1, 0, 0, 6, 3]])

    def test_numbers_given_back_whole(self):
        self.assertEqual(answers([7, 1, 1, 16, 17, 18, 15, 0, 16, 19, 16]),
                         [1, 0, 7, -1, 0, 0, -1, 0, 0, 3, 1, 0, 1, 0, 1, 1, 7, -1, 0, 0, -1, 0, 0, 2, 1, 0, 1, -3])

    def test_through_a_whole_show(self):
        self.assertEqual(behind(
            self.SET_UP,
            begin(8), state(), tick(7), state(), finish([1, 1]), state(),
            begin(0), state(), send(0), tick(2), deliver(0), state(), tick(4), state(), finish([0, 1]), state(),
            begin(1), tick(1), state(), finish([0, 1]), state(), begin(8), state()), [
            [0], [8, 0, 0, -1, 0, 0, 6, 3], [0, 0], [8, 0, 7, -1, 0, 0, 6, 3], [0], [-1, 0, 0, -1, 0, 2, 3, 3],
            [1], [0, 1, 0, -1, 0, 2, 3, 3], [1], [0, 1], [1, 0], [0, 1, 2, 0, 0, 2, 3, 3], [0, 0],
            [0, 1, 6, 0, 0, 2, 3, 3], [0], [-1, 1, 0, -1, 0, 6, 1, 3],
            [2], [0, 0], [1, 2, 1, -1, 0, 6, 1, 3], [0], [-1, 2, 0, -1, 0, 11, 1, 2], [0],
            [8, 2, 0, -1, 0, 11, 1, 2]])

    def test_rescued(self):
        self.assertEqual(behind(self.SET_UP, begin(0), tick(2), state(), tick(1), state(), finish([1, 0]), state()), [
            [1], [0, 0], [0, 1, 2, -1, 0, 0, 6, 3], [1, 0], [0, 1, 3, -1, 1, 0, 6, 3], [1],
            [-1, 1, 0, -1, 0, 4, 6, 1]])

    def test_item_0_being_done_is_not_none(self):
        self.assertEqual(behind(self.SET_UP, begin(0), state(), begin(1))[1:], [[0, 1, 0, -1, 0, 0, 6, 3], [-5]])

    def test_asking_changes_nothing(self):
        before = self.SET_UP + [begin(0), send(7), tick(1)]
        asked = [state(), log(), wire()]
        found = behind(before, *(asked * 3))
        self.assertEqual(found, [[0, 1, 1, -1, 0, 0, 6, 3], [0], [1, 1, 1, 7, 1]] * 3)


class Log(unittest.TestCase):

    SET_UP = [
        trick(4, 3, [3], [0], [0]), trick(5, 3, [3], [0], [0]), trick(6, 0, [3], [0], [0]), trick(1, 1, [3], [0], [0]),
        reset(2, [3], [0]), reset(3, [3], [0]), hall(90, 5, [3]), start([0]),
    ]

    def test_nothing_done(self):
        self.assertEqual(behind(self.SET_UP, log(), begin(0), tick(9), log()), [[0], [1], [1, 0], [0]])

    def test_several_items_in_the_order_they_were_done(self):
        calls = [
            begin(9), finish([0]),
            begin(1), send(42), send(43), deliver(1), finish([0]),
            begin(9), tick(9), finish([0]),
            begin(0), send(44), tick(3), finish([0]),
            begin(2), tick(30), finish([0]),
            begin(3), send(0), deliver(0), tick(1), finish([0]),
            begin(8),
        ]
        done = [9, -1, 0, 1, 43, 0, 9, -1, 0, 0, -1, 1, 2, -1, 0]
        self.assertEqual(behind(self.SET_UP + calls[:17], log()), [[5] + done])
        self.assertEqual(behind(self.SET_UP + calls, log(), state()),
                         [[6] + done + [3, 0, 0], [8, 4, 0, -1, 0, 22, 3]])

    def test_a_refused_finish_is_not_there(self):
        self.assertEqual(behind(self.SET_UP, begin(0), finish([0]), log(), begin(2), tick(3), finish([1]), log(),
                                finish([0]), log())[1:],
                         [[-13], [0], [-5], [1, 0], [-8], [0], [1], [1, 0, -1, 1]])

    def test_many_items(self):
        calls = [item for turn in range(40) for item in (begin(8), finish([0]))]
        self.assertEqual(behind(self.SET_UP + calls, log(), state()),
                         [[40] + [8, -1, 0] * 40, [-1, 0, 0, -1, 0, 80, 3]])


class Wire(unittest.TestCase):

    def test_cues_of_several_tricks(self):
        set_up = [trick(4, 9, [3], [0], [0]), trick(5, 9, [3], [0], [0]), hall(90, 9, [3]), start([0])]
        calls = [begin(0), send(1), tick(1), send(99), deliver(0), finish([0]), wire(), begin(1), tick(2), send(0),
                 wire()]
        found = behind(set_up, *calls)
        self.assertEqual([found[6], found[-1]], [[1, 1, 2, 99, 0], [2, 1, 2, 99, 2, 2, 1, 0, 0]])

    def test_20_cues(self):
        set_up = [trick(4, 9, [3], [0], [0]), hall(90, 9, [3]), start([0]), begin(0)]
        self.assertEqual(last(*(set_up + [send(value) for value in range(80, 100)] + [wire()])),
                         [20] + [number for own in range(1, 21) for number in (1, own, 79 + own, 0)])


if __name__ == "__main__":
    unittest.main()

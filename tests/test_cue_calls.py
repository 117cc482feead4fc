"""send, lose, double, deliver, tick."""

import unittest

from helper import (
    behind, begin, deliver, double, finish, glance, hall, last, log, lose, props, reset, send, start, state, tick,
    trick, wire,
)
from cueshows.shows import answers

# Tricks 0 and 1 want a cue (waits 5 and 3), trick 2 wants none, and a reset; the delay is 4.
SET_UP = [
    props([3]),
    trick(5, 5, [7], [1], [2]),
    trick(6, 3, [7], [2], [4]),
    trick(7, 0, [7], [4], [1]),
    reset(2, [7], [0]),
    hall(60, 4, [7]),
    start([0]),
]

# Five cues on the wire, with the ages 3, 3, 1, 1, 0.
FIVE = SET_UP + [begin(0), send(10), send(20), tick(2), send(30), send(40), tick(1), send(50)]
FIVE_CUES = [(1, 1, 10, 3), (1, 2, 20, 3), (1, 3, 30, 1), (1, 4, 40, 1), (1, 5, 50, 0)]


def row_of(cues):
    """What wire answers of these cues."""
    return [len(cues)] + [number for cue in cues for number in cue]


class Wire(unittest.TestCase):

    def test_empty(self):
        self.assertEqual(behind(SET_UP, wire(), begin(0), wire()), [[0], [1], [0]])

    def test_several_cues_those_sent_first_in_front(self):
        self.assertEqual(last(*(FIVE + [wire()])), row_of(FIVE_CUES))

    def test_numbers_given_back_whole(self):
        calls = [1, 5, 5, 1, 3, 1, 1, 1, 2, 3, 9, 4, 1, 3, 7, 1, 0, 8, 0, 9, 10, 9, 20, 13, 2, 11, 0, 18,
                 10, 2, 12, 0, 18]
        self.assertEqual(answers(calls), [
            1, 0, 1, 0, 1, 0, 1, 1, 1, 1, 1, 2, 2, 0, 2, 1, 3,
            13, 3, 1, 1, 10, 2, 1, 1, 10, 2, 1, 2, 20, 2,
            1, 2, 2, 1, 10, 5, 1, 1, 1, 10, 2])


class Send(unittest.TestCase):

    def test_own_numbers_up_to_20_cues(self):
        found = behind(SET_UP + [begin(0)], *([send(value) for value in range(70, 90)] + [send(1), send(2), wire()]))
        self.assertEqual(found, [[number] for number in range(1, 21)] + [[-7], [-7]]
                         + [row_of([(1, number, 69 + number, 0) for number in range(1, 21)])])

    def test_a_refused_send_uses_up_no_number(self):
        self.assertEqual(behind(SET_UP + [begin(0)], send(0), send(100), send(-1), send(0)), [[1], [-1], [-1], [2]])

    def test_own_numbers_go_on_when_cues_are_off_the_wire(self):
        self.assertEqual(behind(FIVE, lose(4), lose(0), deliver(0), send(60), wire())[3:],
                         [[6], row_of([(1, 3, 30, 1), (1, 4, 40, 1), (1, 6, 60, 0)])])

    def test_room_again_when_a_cue_is_off_the_wire(self):
        full = SET_UP + [begin(0)] + [send(7)] * 20
        for off in (lose(3), deliver(3)):
            with self.subTest(off=off):
                self.assertEqual(behind(full, send(8), off, send(8), send(8))[2:], [[21], [-7]])

    def test_own_numbers_begin_anew_in_each_trick_and_cues_stay(self):
        calls = [begin(0), send(30), send(40), deliver(0), finish([0]), begin(8), tick(1), finish([0]),
                 begin(1), send(50), send(60), wire()]
        self.assertEqual(behind(SET_UP, *calls), [
            [1], [1], [2], [1, 30], [0], [0], [0, 1], [0],
            [2], [1], [2], row_of([(1, 2, 40, 1), (2, 1, 50, 0), (2, 2, 60, 0)])])

    def test_items_that_want_no_cue(self):
        for item, answer in ((0, 1), (1, 1), (2, -11), (8, -11)):
            with self.subTest(item=item):
                self.assertEqual(last(*(SET_UP + [begin(item), send(0)])), [answer])

    def test_a_trick_that_took_a_cue_or_is_rescued_may_be_sent_more(self):
        self.assertEqual(behind(FIVE, deliver(0), send(1), tick(30), send(2)), [[1, 10], [6], [0, 0], [7]])
        self.assertEqual(behind(FIVE, tick(30), send(2), wire()), [[1, 0], [6], row_of([(1, 6, 2, 0)])])

    def test_no_item_is_being_done(self):
        set_up = [trick(9, 3, [3], [1], [2]), hall(5, 0, [3])]
        self.assertEqual(behind(set_up, send(0), start([0]), send(0), begin(0), send(0)),
                         [[-3], [0], [-5], [-6], [-5]])


class Lose(unittest.TestCase):

    def test_each_place(self):
        for place in range(5):
            with self.subTest(place=place):
                self.assertEqual(behind(FIVE, lose(place), wire()),
                                 [[4], row_of(FIVE_CUES[:place] + FIVE_CUES[place + 1:])])

    def test_just_behind_the_last(self):
        self.assertEqual(behind(FIVE, lose(5), wire()), [[-12], row_of(FIVE_CUES)])
        self.assertEqual(behind(SET_UP, begin(0), lose(0)), [[1], [-12]])

    def test_down_to_none(self):
        self.assertEqual(behind(FIVE, lose(0), lose(0), lose(0), lose(0), lose(0), lose(0), wire()),
                         [[4], [3], [2], [1], [0], [-12], [0]])

    def test_the_last_place_there_can_be(self):
        full = SET_UP + [begin(0)] + [send(7)] * 20
        self.assertEqual(behind(full, lose(19), lose(19), lose(18)), [[19], [-12], [18]])

    def test_nothing_is_taken(self):
        self.assertEqual(behind(FIVE, lose(0), state())[1], [0, 1, 3, -1, 0, 0, 7])

    def test_in_an_item_that_wants_no_cue(self):
        before = FIVE + [deliver(0), finish([0])]
        for item in (2, 8):
            with self.subTest(item=item):
                self.assertEqual(behind(before, begin(item), lose(3), lose(1), wire())[1:],
                                 [[3], [2], row_of([FIVE_CUES[1], FIVE_CUES[3]])])


class Double(unittest.TestCase):

    def test_each_place_the_same_lies_right_behind(self):
        for place in range(5):
            with self.subTest(place=place):
                self.assertEqual(behind(FIVE, double(place), wire()),
                                 [[6], row_of(FIVE_CUES[:place + 1] + FIVE_CUES[place:])])

    def test_just_behind_the_last(self):
        self.assertEqual(behind(FIVE, double(5), wire()), [[-12], row_of(FIVE_CUES)])
        self.assertEqual(behind(SET_UP, begin(0), double(0), wire()), [[1], [-12], [0]])

    def test_at_19_and_at_20_cues(self):
        before = SET_UP + [begin(0)] + [send(value) for value in range(19)]
        for place in (0, 9, 18):
            with self.subTest(place=place):
                found = behind(before, double(19), double(place), wire(), double(place), double(19), double(0), wire())
                self.assertEqual(found[:2] + found[3:6], [[-12], [20], [-7], [-7], [-7]])
                cues = [(1, value + 1, value, 0) for value in range(19)]
                self.assertEqual(found[2], row_of(cues[:place + 1] + cues[place:]))
                self.assertEqual(found[6], found[2])

    def test_a_doubled_cue_leaves_the_other_alone(self):
        self.assertEqual(behind(FIVE, double(2), lose(2), wire()), [[6], [5], row_of(FIVE_CUES)])
        self.assertEqual(behind(FIVE, double(2), lose(3), wire()), [[6], [5], row_of(FIVE_CUES)])

    def test_both_grow_older_alike(self):
        cues = [(1, 1, 10, 4), (1, 1, 10, 4), (1, 2, 20, 4), (1, 3, 30, 2), (1, 4, 40, 2), (1, 5, 50, 1),
                (1, 5, 50, 1)]
        self.assertEqual(behind(FIVE, double(0), double(5), tick(1), wire())[2:], [[0, 7], row_of(cues)])

    def test_own_numbers_go_on_without_the_doubled(self):
        self.assertEqual(behind(FIVE, double(0), double(0), send(9)), [[6], [7], [6]])

    def test_in_an_item_that_wants_no_cue(self):
        before = FIVE + [deliver(0), finish([0])]
        for item in (2, 8):
            with self.subTest(item=item):
                self.assertEqual(behind(before, begin(item), double(3), double(4))[1:], [[5], [6]])


class Deliver(unittest.TestCase):

    def test_each_place_taken_with_its_value(self):
        for place in range(5):
            with self.subTest(place=place):
                value = FIVE_CUES[place][2]
                self.assertEqual(behind(FIVE, deliver(place), wire(), state()),
                                 [[1, value], row_of(FIVE_CUES[:place] + FIVE_CUES[place + 1:]),
                                  [0, 1, 3, value, 0, 0, 7]])

    def test_just_behind_the_last(self):
        self.assertEqual(behind(FIVE, deliver(5), wire(), state()),
                         [[-12], row_of(FIVE_CUES), [0, 1, 3, -1, 0, 0, 7]])
        self.assertEqual(behind(SET_UP, begin(0), deliver(0)), [[1], [-12]])

    def test_the_least_and_the_most_value(self):
        for value in (0, 99):
            with self.subTest(value=value):
                self.assertEqual(behind(SET_UP, begin(0), send(value), send(50), deliver(0), deliver(0), state())[3:],
                                 [[1, value], [0], [0, 1, 0, value, 0, 0, 7]])

    def test_a_second_one_is_passed_over(self):
        self.assertEqual(behind(FIVE, deliver(4), deliver(0), wire(), state()),
                         [[1, 50], [0], row_of(FIVE_CUES[1:4]), [0, 1, 3, 50, 0, 0, 7]])

    def test_a_doubled_one_is_taken_once_only(self):
        self.assertEqual(behind(FIVE, double(1), deliver(2), deliver(1), state(), wire())[1:],
                         [[1, 20], [0], [0, 1, 3, 20, 0, 0, 7], row_of(FIVE_CUES[:1] + FIVE_CUES[2:])])

    def test_a_cue_of_an_earlier_trick_is_passed_over(self):
        before = FIVE + [deliver(0), finish([0]), begin(1)]
        self.assertEqual(behind(before, deliver(0), state(), send(77), deliver(1), deliver(2), deliver(0), wire()),
                         [[0], [1, 2, 0, -1, 0, 5, 1], [1], [0], [1, 77], [0], row_of([FIVE_CUES[4]])])

    def test_a_doubled_cue_of_an_earlier_trick_is_passed_over(self):
        calls = [begin(0), send(10), double(0), deliver(0), finish([0]), begin(1), double(0), deliver(1), deliver(0),
                 state()]
        self.assertEqual(behind(SET_UP, *calls)[-3:], [[0], [0], [1, 2, 0, -1, 0, 5, 1]])

    def test_passed_over_when_it_is_rescued_already(self):
        calls = [begin(0), tick(4), send(1), tick(1), deliver(0), wire(), state()]
        self.assertEqual(behind(SET_UP, *calls)[3:], [[1, 1], [0], [0], [0, 1, 5, -1, 1, 0, 7]])
        calls = [begin(0), tick(5), send(1), deliver(0), wire(), state()]
        self.assertEqual(behind(SET_UP, *calls)[3:], [[0], [0], [0, 1, 5, -1, 1, 0, 7]])

    def test_taken_at_one_tick_fewer_than_the_wait(self):
        self.assertEqual(behind(SET_UP, begin(0), send(1), tick(4), deliver(0), state())[2:],
                         [[0, 1], [1, 1], [0, 1, 4, 1, 0, 0, 7]])

    def test_passed_over_in_a_trick_that_wants_no_cue_and_in_a_reset(self):
        before = FIVE + [deliver(0), finish([0])]
        for item, serial in ((2, 2), (8, 1)):
            with self.subTest(item=item):
                self.assertEqual(behind(before, begin(item), deliver(0), wire(), state())[1:],
                                 [[0], row_of(FIVE_CUES[2:]), [item, serial, 0, -1, 0, 5, 1]])

    def test_each_trick_takes_its_own(self):
        calls = [begin(0), send(11), deliver(0), finish([0]), begin(1), send(12), deliver(0), finish([1]), log()]
        self.assertEqual(behind(SET_UP, *calls),
                         [[1], [1], [1, 11], [0], [2], [1], [1, 12], [0], [2, 0, 11, 0, 1, 12, 0]])


class Rescue(unittest.TestCase):

    def test_just_at_its_wait_and_not_at_one_fewer(self):
        for wait in (1, 2, 10, 20):
            before = [trick(5, wait, [3], [1], [2]), hall(60, 4, [3]), start([0]), begin(0)]
            with self.subTest(wait=wait):
                if wait > 1:
                    self.assertEqual(behind(before, tick(wait - 1), state()), [[0, 0], [0, 1, wait - 1, -1, 0, 0, 3]])
                self.assertEqual(behind(before, tick(wait), state()), [[1, 0], [0, 1, wait, -1, 1, 0, 3]])
                self.assertEqual(behind(before, tick(wait + 1), state()), [[1, 0], [0, 1, wait + 1, -1, 1, 0, 3]])
                self.assertEqual(behind(before, tick(30), state()), [[1, 0], [0, 1, 30, -1, 1, 0, 3]])

    def test_over_several_ticks(self):
        self.assertEqual(behind(SET_UP, begin(0), tick(1), tick(1), tick(2), state(), tick(1), state(), tick(1))[1:],
                         [[0, 0], [0, 0], [0, 0], [0, 1, 4, -1, 0, 0, 7], [1, 0], [0, 1, 5, -1, 1, 0, 7], [1, 0]])

    def test_not_once_a_cue_was_taken(self):
        self.assertEqual(behind(SET_UP, begin(0), send(0), tick(4), deliver(0), tick(1), tick(30), state(), finish([0]),
                                log())[3:],
                         [[1, 0], [0, 0], [0, 0], [0, 1, 35, 0, 0, 0, 7], [0], [1, 0, 0, 0]])

    def test_cues_that_were_passed_over_or_lost_or_only_sent_do_not_help(self):
        before = FIVE + [deliver(0), finish([0]), begin(1), deliver(0), lose(0), send(5), tick(2)]
        self.assertEqual(behind(before, state(), tick(1)), [[1, 2, 2, -1, 0, 5, 1], [1, 3]])

    def test_a_trick_that_wants_no_cue_and_a_reset_never(self):
        for item, serial in ((2, 1), (8, 0)):
            with self.subTest(item=item):
                self.assertEqual(behind(SET_UP, begin(item), tick(30), tick(30), state())[1:],
                                 [[0, 0], [0, 0], [item, serial, 60, -1, 0, 0, 7]])

    def test_ticks_count_since_the_beginning_of_the_item(self):
        calls = [begin(8), tick(30), finish([0]), begin(1), state(), tick(2), state(), tick(1)]
        self.assertEqual(behind(SET_UP, *calls)[3:],
                         [[1], [1, 1, 0, -1, 0, 2, 7], [0, 0], [1, 1, 2, -1, 0, 2, 7], [1, 0]])

    def test_a_rescue_is_not_handed_on(self):
        calls = [begin(0), tick(5), finish([1]), state(), begin(1), state(), tick(1), send(3), deliver(0), finish([1]),
                 log()]
        self.assertEqual(behind(SET_UP, *calls)[1:],
                         [[1, 0], [1], [-1, 1, 0, -1, 0, 5, 2], [2], [1, 2, 0, -1, 0, 5, 2], [0, 0], [1], [1, 3], [0],
                          [2, 0, -1, 1, 1, 3, 0]])


class Ages(unittest.TestCase):

    def test_gone_when_older_than_the_delay_there_when_just_as_old(self):
        for delay in (1, 2, 7, 20):
            before = [trick(5, 20, [3], [1], [2]), hall(60, delay, [3]), start([0]), begin(0), send(6)]
            rescued = 1 if delay >= 20 else 0
            with self.subTest(delay=delay):
                self.assertEqual(behind(before, tick(delay), wire(), tick(1), wire()),
                                 [[rescued, 1], row_of([(1, 1, 6, delay)]), [1 if delay >= 19 else 0, 0], [0]])
                self.assertEqual(behind(before, tick(delay + 1), wire())[1], [0])

    def test_the_delay_0(self):
        before = [trick(5, 20, [3], [1], [2]), hall(60, 0, [3]), start([0]), begin(0), send(6), send(7)]
        self.assertEqual(behind(before, wire(), tick(1), wire()), [row_of([(1, 1, 6, 0), (1, 2, 7, 0)]), [0, 0], [0]])
        self.assertEqual(behind(before, deliver(1)), [[1, 7]])

    def test_some_go_and_some_stay(self):
        self.assertEqual(behind(FIVE, tick(1), tick(1), wire(), tick(1), tick(1), tick(1), wire(), tick(1), wire()), [
            [0, 5], [1, 3], row_of([(1, 3, 30, 3), (1, 4, 40, 3), (1, 5, 50, 2)]),
            [1, 3], [1, 1], [1, 0], [0], [1, 0], [0]])
        self.assertEqual(behind(FIVE, tick(4), wire()), [[1, 1], row_of([(1, 5, 50, 4)])])

    def test_a_cue_that_is_gone_makes_room_and_places_move_up(self):
        before = SET_UP + [begin(0), send(1), tick(3)] + [send(2)] * 19
        self.assertEqual(behind(before, send(3), tick(1), send(3), tick(1), send(3), deliver(0))[:5],
                         [[-7], [0, 20], [-7], [1, 19], [21]])
        self.assertEqual(behind(FIVE, tick(1), deliver(4)), [[0, 5], [1, 50]])

    def test_cues_of_an_earlier_trick_go_on_in_age(self):
        calls = [deliver(0), finish([0]), wire(), begin(8), wire(), tick(1), wire(), finish([0]), begin(1), tick(1),
                 send(5), wire(), tick(2), wire()]
        self.assertEqual(behind(FIVE, *calls)[2:], [
            row_of(FIVE_CUES[1:]), [0], row_of(FIVE_CUES[1:]), [0, 4],
            row_of([(1, 2, 20, 4), (1, 3, 30, 2), (1, 4, 40, 2), (1, 5, 50, 1)]), [0], [2], [0, 3],
            [1], row_of([(1, 3, 30, 3), (1, 4, 40, 3), (1, 5, 50, 2), (2, 1, 5, 0)]), [1, 2],
            row_of([(1, 5, 50, 4), (2, 1, 5, 2)])])

    def test_other_calls_pass_no_tick(self):
        before = FIVE + [glance(0), state(), log(), lose(4), double(3), deliver(4), tick(99)]
        self.assertEqual(behind(before, wire(), state()), [row_of(FIVE_CUES[:4]), [0, 1, 3, 40, 0, 0, 1]])


if __name__ == "__main__":
    unittest.main()

"""Each refusal of the calls 10 to 19: the edges of the ranges, the order, and that nothing changes."""

import unittest

from helper import (
    HUGE, all_seen, begin, behind, close, deliver, double, finish, glance, hall, log, lose, props, reset, runs, send,
    start, state, tick, trick, wire,
)

# Two props with 3 and 2 conditions; trick 0 wants a cue, trick 1 wants none.
SET_UP = [
    props([3, 2]),
    trick(5, 4, [7, 3], [1, 0], [2, 0]),
    trick(6, 0, [7, 3], [0, 2], [0, 0]),
    reset(2, [7, 3], [0, 3]),
    hall(50, 6, [3, 3]),
]
OFF = SET_UP
IDLE = SET_UP + [start([1, 0])]
# Items were done, and cues of an earlier trick are on the wire.
LATER = IDLE + [begin(0), send(1), send(2), tick(1), deliver(0), finish([0, 0]), begin(8), finish([0, 1])]
RESET = LATER + [begin(8), tick(1)]
PLAIN = LATER + [begin(1), tick(1)]
WANTING = IDLE + [begin(8), finish([1, 1]), begin(0), send(3), tick(1), send(4), glance(1), tick(1), send(5)]
TAKEN = WANTING + [deliver(1)]
RESCUED = WANTING + [tick(2)]
FULL = WANTING + [send(6)] * 17
ON = (IDLE, LATER, RESET, PLAIN, WANTING, TAKEN, RESCUED, FULL)
BUSY = (RESET, PLAIN, WANTING, TAKEN, RESCUED, FULL)
OUTSIDE = (HUGE, -HUGE, HUGE - 1, 1 - HUGE)


class Refusals(unittest.TestCase):

    def check(self, before, call, refusal):
        """This refusal alone, and behind it all is as it was."""
        with self.subTest(before=before[len(SET_UP):], call=call):
            self.assertEqual(behind(before, call), [[refusal]])
            self.assertEqual(all_seen(before + [call], 2), all_seen(before, 2))

    def check_range(self, make, least, most):
        for before in (OFF,) + ON:
            for number in (least - 1, most + 1) + OUTSIDE:
                self.check(before, make(number), -1)
            for number in (least, most):
                with self.subTest(before=before[len(SET_UP):], call=make(number)):
                    self.assertNotIn(behind(before, make(number))[0][0], (-1, -2))

    def test_numbers_not_in_their_range(self):
        self.check_range(lose, 0, 19)
        self.check_range(double, 0, 19)
        self.check_range(deliver, 0, 19)
        self.check_range(tick, 1, 30)
        self.check_range(glance, 0, 3)

    def test_numbers_just_inside(self):
        self.assertEqual([behind(FULL, lose(place)) for place in (0, 19)], [[[19]], [[19]]])
        room = FULL + [lose(19)]
        self.assertEqual([behind(room, double(place)) for place in (0, 18)], [[[20]], [[20]]])
        self.assertEqual([behind(FULL, deliver(place)) for place in (0, 19)], [[[1, 3]], [[1, 6]]])
        self.assertEqual([behind(RESET, tick(ticks)) for ticks in (1, 30)], [[[0, 1]], [[0, 0]]])
        four = [props([2, 2, 2, 2]), start([1, 0, 0, 1])]
        self.assertEqual([behind(four, glance(prop)) for prop in (0, 3)], [[[1]], [[1]]])

    def test_finish_with_a_wrong_list(self):
        wrong = [[], [0], [1], [0, 0, 0], [0, 1, 0, 0], [0] * 29, [0] * 30, list(range(30)), [HUGE] * 30,
                 [-1, 0], [3, 0], [0, -1], [0, 2], [HUGE], [-1, 2]]
        wrong += [[number, 0] for number in OUTSIDE] + [[0, number] for number in OUTSIDE]
        for before in (OFF,) + ON:
            for actual in wrong:
                self.check(before, finish(actual), -2)

    def test_finish_just_inside(self):
        set_up = [props([3, 2]), reset(2, [7, 3], [7, 3]), hall(50, 6, [7, 3]), start([1, 0]), begin(8)]
        for actual in ([0, 0], [2, 0], [0, 1], [2, 1]):
            with self.subTest(actual=actual):
                self.assertEqual(behind(set_up, finish(actual), glance(0), glance(1)),
                                 [[0], actual[:1], actual[1:]])

    def test_finish_with_a_list_for_each_count_of_props(self):
        for there in (1, 2, 3, 4):
            before = [props([2] * there), reset(2, [3] * there, [3] * there), hall(9, 0, [3] * there),
                      start([0] * there), begin(8)]
            for length in (0, 1, 2, 3, 4, 5, 30):
                with self.subTest(there=there, length=length):
                    self.assertEqual(behind(before, finish([1] * length)), [[0] if length == there else [-2]])

    def test_the_show_is_not_on(self):
        for before in (OFF, IDLE + [close()], WANTING + [close()]):
            for call in (lose(0), double(0), deliver(0), tick(1), finish([0, 0]), glance(0), glance(2), glance(3),
                         state(), log(), wire(), close()):
                self.check(before, call, -3)

    def test_a_refused_call_does_not_start_the_show(self):
        found = behind(OFF, lose(0), finish([1, 0]), close(), props([2]))
        self.assertEqual(found, [[-3], [-3], [-3], [1]])

    def test_no_item_is_being_done(self):
        for before in (IDLE, LATER, IDLE + [begin(8), start([1, 0])]):
            for call in (lose(0), lose(19), double(0), double(19), deliver(0), deliver(19), tick(1), tick(30),
                         finish([1, 0]), finish([2, 1])):
                self.check(before, call, -5)

    def test_glance_state_log_wire_and_close_need_no_item(self):
        for before in ON:
            with self.subTest(before=before):
                found = behind(before, glance(0), glance(1), state(), log(), wire(), close())
                self.assertEqual([answer[0] >= 0 for answer in found[:2] + found[3:]], [True] * 5)
                self.assertEqual(len(found[2]), 8)

    def test_no_cue_at_this_place(self):
        for before, there in ((RESET, 1), (PLAIN, 1), (WANTING, 3), (TAKEN, 2), (RESCUED, 3), (FULL + [lose(0)], 19)):
            for place in range(20):
                for make in (lose, double, deliver):
                    if place >= there:
                        self.check(before, make(place), -12)
                    else:
                        with self.subTest(before=before, call=make(place)):
                            self.assertGreaterEqual(behind(before, make(place))[0][0], 0)
        for make in (lose, double, deliver):
            self.check(IDLE + [begin(0)], make(0), -12)

    def test_no_room_for_a_double(self):
        for place in range(20):
            self.check(FULL, double(place), -7)

    def test_it_has_taken_no_cue_and_is_not_rescued(self):
        for before in (WANTING, FULL, IDLE + [begin(0)], IDLE + [begin(0), tick(3)]):
            for actual in ([0, 0], [1, 0], [2, 1]):
                self.check(before, finish(actual), -13)

    def test_an_end_that_can_not_be(self):
        self.check(TAKEN, finish([0, 0]), -8)
        self.check(TAKEN, finish([1, 1]), -8)
        self.check(TAKEN, finish([2, 0]), -8)
        self.check(RESCUED, finish([1, 0]), -8)
        self.check(RESCUED, finish([0, 1]), -8)
        self.check(RESCUED, finish([2, 1]), -8)
        self.check(PLAIN, finish([0, 0]), -8)
        self.check(PLAIN, finish([1, 1]), -8)
        self.check(RESET, finish([1, 0]), -8)
        self.check(RESET, finish([2, 1]), -8)
        self.assertEqual([behind(TAKEN, finish([0, 1])), behind(RESCUED, finish([1, 1])), behind(PLAIN, finish([0, 1])),
                          behind(RESET, finish([0, 0])), behind(RESET, finish([0, 1]))],
                         [[[0]], [[1]], [[0]], [[0]], [[0]]])

    def test_no_such_prop(self):
        for before in ON:
            for prop in (2, 3):
                self.check(before, glance(prop), -4)

    def test_the_range_goes_ahead_of_all_else(self):
        for make in (lose, double, deliver):
            for before in (OFF, IDLE, LATER, RESET, FULL, IDLE + [begin(0)]):
                self.check(before, make(20), -1)
                self.check(before, make(-1), -1)
        for before in (OFF, IDLE):
            self.check(before, tick(0), -1)
            self.check(before, tick(31), -1)
            self.check(before, glance(4), -1)

    def test_the_list_goes_ahead_of_the_show_the_item_the_cue_and_the_end(self):
        for before in (OFF, IDLE, WANTING, TAKEN, RESCUED):
            self.check(before, finish([2, 2]), -2)
            self.check(before, finish([2]), -2)

    def test_the_show_goes_ahead_of_the_item(self):
        for call in (lose(0), double(0), deliver(0), tick(1), finish([2, 1])):
            self.check(OFF, call, -3)
            self.check(IDLE, call, -5)

    def test_the_show_goes_ahead_of_the_prop(self):
        self.check(OFF, glance(3), -3)
        self.check(IDLE, glance(3), -4)

    def test_the_item_goes_ahead_of_the_place(self):
        for make in (lose, double, deliver):
            self.check(LATER, make(1), -5)
            self.check(RESET, make(1), -12)

    def test_the_missing_cue_goes_ahead_of_the_end(self):
        self.check(WANTING, finish([2, 1]), -13)
        self.check(RESCUED, finish([2, 1]), -8)
        self.check(TAKEN, finish([2, 1]), -8)

    def test_calls_0_to_3_while_an_item_is_being_done(self):
        for before in ON:
            for call in (props([2]), trick(1, 0, [1, 1], [0, 0], [0, 0]), reset(1, [1, 1], [0, 0]), hall(1, 1, [1, 1])):
                self.check(before, call, -3)

    def test_begin_and_send_and_start(self):
        for before in BUSY:
            self.check(before, begin(8), -5)
            self.check(before, begin(7), -5)
            self.check(before, begin(14), -1)
            self.check(before, start([2, 1]), -8)
            self.check(before, start([3, 1]), -2)
            self.check(before, send(100), -1)
        self.check(LATER, begin(0), -9)
        self.check(LATER, begin(2), -4)
        self.check(LATER, send(0), -5)
        self.check(RESET, send(0), -11)
        self.check(PLAIN, send(0), -11)
        self.check(FULL, send(0), -7)

    def test_runs_of_a_wrong_list_while_the_show_is_on(self):
        for before in ON:
            self.check(before, runs([14]), -2)


if __name__ == "__main__":
    unittest.main()

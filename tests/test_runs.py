"""runs: the four reasons, their places and order; whole or not; the beliefs behind a plan."""

import unittest

from helper import ask, hall, last, props, reset, runs, told, trick


class Answers(unittest.TestCase):

    def test_the_plan_of_no_items(self):
        self.assertEqual(last(props([2, 3]), hall(0, 0, [2, 5]), runs([])), [1, 0, 1, 2, 5])
        self.assertEqual(last(props([2, 3]), trick(1, 0, [3, 7], [0, 0], [0, 0]), runs([])), [1, 0, 0, 3, 7])
        self.assertEqual(last(props([2, 3]), reset(1, [3, 7], [0, 0]), runs([])), [1, 0, 1, 3, 7])

    def test_whole_and_not_whole(self):
        set_up = [trick(3, 0, [3], [1], [2]), trick(4, 0, [3], [2], [1]), reset(5, [3], [3]), hall(50, 0, [3])]
        self.assertEqual(ask(*(set_up + [runs([0]), runs([1]), runs([0, 1]), runs([1, 0]), runs([8]),
                                         runs([8, 1, 8, 0, 8])]))[4:],
                         [[1, 3, 0, 1], [1, 4, 0, 2], [1, 7, 1, 2], [1, 7, 1, 1], [1, 5, 0, 3], [1, 22, 1, 3]])

    def test_a_reset_may_be_there_again(self):
        set_up = [reset(2, [3], [1]), hall(60, 0, [3])]
        self.assertEqual(last(*(set_up + [runs([8] * 30)])), [1, 60, 1, 1])

    def test_nothing_changes(self):
        set_up = [trick(3, 0, [3], [1], [2]), hall(50, 0, [3])]
        found = ask(*(set_up + [told(), runs([0]), runs([0]), told()]))
        self.assertEqual(found[3], found[4])
        self.assertEqual(found[2], found[5])


class BeliefsBehind(unittest.TestCase):

    def behind(self, item, beliefs):
        number = 0 if item[0] == 1 else 8
        answer = last(props([4, 4]), item, hall(60, 0, beliefs), runs([number]))
        self.assertEqual(answer[:3], [1, 7, 1])
        return answer[3:]

    def test_a_reset(self):
        self.assertEqual(self.behind(reset(7, [15, 15], [6, 0]), [3, 5]), [6, 5])

    def test_a_trick_that_wants_no_cue_never_goes_by_its_rescue(self):
        self.assertEqual(self.behind(trick(7, 0, [15, 15], [6, 0], [8, 8]), [3, 5]), [6, 5])

    def test_a_trick_that_wants_a_cue_both_ways_may_be(self):
        self.assertEqual(self.behind(trick(7, 1, [15, 15], [6, 1], [8, 3]), [3, 5]), [14, 3])
        self.assertEqual(self.behind(trick(7, 20, [15, 15], [6, 0], [0, 8]), [1, 5]), [7, 13])
        self.assertEqual(self.behind(trick(7, 1, [15, 15], [0, 0], [0, 0]), [3, 5]), [3, 5])

    def test_beliefs_go_from_item_to_item(self):
        set_up = [props([3]), trick(1, 2, [1], [2], [4]), trick(1, 0, [6], [0], [0]), reset(1, [6], [1]),
                  hall(60, 0, [1])]
        self.assertEqual(ask(*(set_up + [runs([0]), runs([0, 1]), runs([0, 1, 8]), runs([0, 8, 1])]))[5:],
                         [[1, 1, 0, 6], [1, 2, 1, 6], [1, 3, 1, 1], [0, 2, 3]])


class Reasons(unittest.TestCase):

    SET_UP = [
        props([3]),
        trick(10, 0, [3], [0], [0]),
        trick(20, 0, [4], [0], [0]),
        trick(41, 0, [3], [0], [0]),
        reset(10, [3], [1]),
        reset(1, [4], [4]),
        hall(40, 0, [3]),
    ]

    def check(self, order, answer):
        with self.subTest(order=order):
            self.assertEqual(last(*(self.SET_UP + [runs(order)])), answer)

    def test_there_is_no_such_item(self):
        self.check([3], [0, 0, 1])
        self.check([7], [0, 0, 1])
        self.check([10], [0, 0, 1])
        self.check([13], [0, 0, 1])
        self.check([0, 8, 3, 3], [0, 2, 1])

    def test_the_trick_was_there(self):
        self.check([0, 0], [0, 1, 2])
        self.check([0, 8, 8, 0], [0, 3, 2])

    def test_not_sure(self):
        self.check([1], [0, 0, 3])
        self.check([9], [0, 0, 3])
        self.check([8, 0, 9], [0, 2, 3])

    def test_the_limit(self):
        self.check([2], [0, 0, 4])
        self.check([8, 8, 8, 8], [1, 40, 0, 1])
        self.check([8, 8, 8, 8, 8], [0, 4, 4])
        self.check([8, 8, 8, 8, 0], [0, 4, 4])

    def test_the_first_item_that_does_not_run_is_told(self):
        self.check([1, 3, 0, 0], [0, 0, 3])
        self.check([0, 2, 3], [0, 1, 4])

    def test_was_there_is_looked_at_ahead_of_not_sure_and_the_limit(self):
        # Behind trick 0 it isn't sure any more, and there's no minute left.
        set_up = [trick(5, 0, [1], [2], [0]), hall(5, 0, [1])]
        self.assertEqual(last(*(set_up + [runs([0, 0])])), [0, 1, 2])

    def test_not_sure_is_looked_at_ahead_of_the_limit(self):
        set_up = [trick(5, 0, [1], [2], [0]), trick(5, 0, [1], [2], [0]), reset(5, [1], [0]), hall(5, 0, [1])]
        self.assertEqual(ask(*(set_up + [runs([0, 1]), runs([0, 8])]))[4:], [[0, 1, 3], [0, 1, 3]])

    def test_a_plan_of_30_that_fails_at_its_end(self):
        set_up = [reset(1, [3], [0]), hall(29, 0, [3])]
        self.assertEqual(last(*(set_up + [runs([8] * 29)])), [1, 29, 1, 3])
        self.assertEqual(last(*(set_up + [runs([8] * 30)])), [0, 29, 4])


if __name__ == "__main__":
    unittest.main()

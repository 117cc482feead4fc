"""Each refusal of the calls 0 to 9: the edges of the ranges, the order, and that nothing changes."""

import unittest

from helper import HUGE, ask, begin, hall, last, plan, props, reset, runs, send, start, told, trick

# Two props with 3 and 2 conditions, a trick that wants a cue, one that wants none, a reset.
SET_UP = [
    props([3, 2]),
    trick(5, 3, [7, 3], [1, 0], [2, 0]),
    trick(6, 0, [1, 1], [0, 2], [0, 0]),
    reset(2, [7, 3], [1, 1]),
    hall(50, 4, [3, 3]),
]


def answered(call):
    """What the call answers, and whether what is told is the same behind it."""
    found = ask(*(SET_UP + [told(), call, told()]))
    return found[-2], found[-1] == found[-3]


class Edges(unittest.TestCase):

    def check_number(self, make, least, most, refusal):
        for number in (least, most):
            with self.subTest(number=number):
                self.assertGreaterEqual(answered(make(number))[0][0], 0)
        for number in (least - 1, most + 1, HUGE, -HUGE):
            with self.subTest(number=number):
                self.assertEqual(answered(make(number)), ([refusal], True))

    def check_lengths(self, make, one, allowed):
        for length in (0, 1, 2, 3, 4, 5, 29, 30):
            with self.subTest(length=length):
                answer, same = answered(make([one] * length))
                if length in allowed:
                    self.assertGreaterEqual(answer[0], 0)
                else:
                    self.assertEqual((answer, same), ([-2], True))

    def check_sets(self, make, least):
        """A list of two sets, of a prop with 3 conditions and one with 2."""
        self.check_number(lambda number: make([number, 1]), least, 7, -2)
        self.check_number(lambda number: make([1, number]), least, 3, -2)
        self.check_lengths(make, 1, (2,))

    def test_props(self):
        self.check_number(lambda number: props([number]), 2, 6, -2)
        self.check_number(lambda number: props([2, 3, 4, number]), 2, 6, -2)
        self.check_lengths(props, 2, (1, 2, 3, 4))

    def test_trick(self):
        self.check_number(lambda number: trick(number, 0, [1, 1], [0, 0], [0, 0]), 1, 60, -1)
        self.check_number(lambda number: trick(1, number, [1, 1], [0, 0], [0, 0]), 0, 20, -1)
        self.check_sets(lambda sets: trick(1, 0, sets, [0, 0], [0, 0]), 1)
        self.check_sets(lambda sets: trick(1, 0, [1, 1], sets, [0, 0]), 0)
        self.check_sets(lambda sets: trick(1, 0, [1, 1], [0, 0], sets), 0)

    def test_reset(self):
        self.check_number(lambda number: reset(number, [1, 1], [0, 0]), 1, 60, -1)
        self.check_sets(lambda sets: reset(1, sets, [0, 0]), 1)
        self.check_sets(lambda sets: reset(1, [1, 1], sets), 0)

    def test_hall(self):
        self.check_number(lambda number: hall(number, 0, [1, 1]), 0, 480, -1)
        self.check_number(lambda number: hall(0, number, [1, 1]), 0, 20, -1)
        self.check_sets(lambda sets: hall(0, 0, sets), 1)

    def test_runs(self):
        self.check_number(lambda number: runs([number]), 0, 13, -2)
        self.check_number(lambda number: runs([8, 8, number]), 0, 13, -2)
        self.check_lengths(runs, 8, range(31))

    def test_runs_looks_at_the_whole_list_ahead_of_its_items(self):
        self.assertEqual(answered(runs([13, 14])), ([-2], True))
        self.assertEqual(answered(runs([-1, 13])), ([-2], True))

    def test_plan(self):
        self.check_number(plan, 0, 200, -1)

    def test_start(self):
        def last_of(actual):
            found = ask(*(SET_UP + [hall(50, 4, [7, 3]), start(actual), begin(0)]))
            return found[-2:]

        for actual in ([0, 0], [2, 0], [0, 1], [2, 1]):
            with self.subTest(actual=actual):
                self.assertEqual(last_of(actual), [[0], [1]])
        wrong = [[-1, 0], [3, 0], [0, -1], [0, 2], [HUGE, 0], [-HUGE, 0], [0, HUGE], [0, -HUGE],
                 [], [0], [0, 0, 0], [0] * 30]
        for actual in wrong:
            with self.subTest(actual=actual):
                self.assertEqual(last_of(actual), [[-2], [-3]])

    def test_begin(self):
        for item in (-1, 14, HUGE, -HUGE):
            with self.subTest(item=item):
                self.assertEqual(ask(*(SET_UP + [start([0, 0]), begin(item), begin(0)]))[-2:], [[-1], [1]])
        self.assertEqual(last(*(SET_UP + [start([0, 0]), begin(0)])), [1])
        self.assertEqual(last(*(SET_UP + [start([0, 0]), begin(13)])), [-4])

    def test_send(self):
        on = SET_UP + [start([0, 0]), begin(0)]
        for value in (0, 1, 98, 99):
            with self.subTest(value=value):
                self.assertEqual(last(*(on + [send(value)])), [1])
        for value in (-1, 100, HUGE, -HUGE):
            with self.subTest(value=value):
                self.assertEqual(ask(*(on + [send(value), send(5)]))[-2:], [[-1], [1]])


class OrderOfRefusals(unittest.TestCase):

    def test_a_number_goes_ahead_of_a_list(self):
        self.assertEqual(answered(trick(0, 0, [0, 0], [8, 0], [0])), ([-1], True))
        self.assertEqual(answered(trick(1, 21, [], [], [])), ([-1], True))
        self.assertEqual(answered(reset(61, [], [9, 9])), ([-1], True))
        self.assertEqual(answered(hall(481, 0, [0, 0])), ([-1], True))
        self.assertEqual(answered(hall(0, -1, [])), ([-1], True))

    def test_a_list_goes_ahead_of_the_show_being_on(self):
        on = SET_UP + [start([0, 0])]
        for call in (props([]), props([7]), trick(1, 0, [0, 1], [0, 0], [0, 0]),
                     trick(1, 0, [1, 1], [0, 4], [0, 0]), trick(1, 0, [1, 1], [0, 0], [0]),
                     reset(1, [1], [0, 0]), reset(1, [1, 1], [8, 0]), hall(0, 0, [1, 0])):
            with self.subTest(call=call):
                self.assertEqual(last(*(on + [call])), [-2])

    def test_a_number_goes_ahead_of_the_show_being_on(self):
        on = SET_UP + [start([0, 0])]
        for call in (trick(0, 0, [1, 1], [0, 0], [0, 0]), trick(1, -1, [], [], []),
                     reset(0, [1, 1], [0, 0]), hall(481, 0, [1, 1]), hall(0, 21, [])):
            with self.subTest(call=call):
                self.assertEqual(last(*(on + [call])), [-1])

    def test_calls_0_to_3_while_the_show_is_on(self):
        on = SET_UP + [told(), start([0, 0])]
        for call in (props([2]), trick(1, 0, [1, 1], [0, 0], [0, 0]), reset(1, [1, 1], [0, 0]),
                     hall(0, 0, [1, 1])):
            with self.subTest(call=call):
                found = ask(*(on + [call, told(), begin(0), call, told(), send(3)]))
                before = found[len(SET_UP)]
                self.assertEqual(found[-6:], [[-3], before, [1], [-3], before, [1]])

    def test_the_show_being_on_goes_ahead_of_no_room(self):
        one = trick(1, 0, [1], [0], [0])
        two = reset(1, [1], [0])
        found = ask(*([one] * 8 + [two] * 6 + [one, two, start([0]), one, two]))
        self.assertEqual(found[-5:], [[-7], [-7], [0], [-3], [-3]])

    def test_range_and_list_go_ahead_of_no_room(self):
        one = trick(1, 0, [1], [0], [0])
        two = reset(1, [1], [0])
        found = ask(*([one] * 8 + [two] * 6 + [
            trick(61, 0, [1], [0], [0]), trick(1, 0, [0], [0], [0]), reset(0, [1], [0]), reset(1, [1], [4])]))
        self.assertEqual(found[-4:], [[-1], [-2], [-1], [-2]])

    def test_start_looks_at_the_list_ahead_of_the_belief(self):
        self.assertEqual(last(*(SET_UP + [start([2, 2])])), [-2])
        self.assertEqual(last(*(SET_UP + [start([2, 1, 0])])), [-2])
        self.assertEqual(last(*(SET_UP + [start([2, 1])])), [-8])

    def test_begin(self):
        # Trick 0 is sure and fits, 1 isn't sure and doesn't fit, 2 is sure and doesn't fit.
        set_up = [trick(5, 1, [3], [0], [0]), trick(6, 0, [1], [0], [0]), trick(6, 0, [3], [0], [0]),
                  hall(5, 0, [3])]
        self.assertEqual(ask(*(set_up + [begin(14), begin(13), begin(0), start([1]), begin(14), begin(13),
                                         begin(1), begin(2), begin(0), begin(14), begin(13), begin(1),
                                         begin(2), begin(0)]))[4:],
                         [[-1], [-3], [-3], [0], [-1], [-4], [-10], [-6], [1], [-1], [-5], [-5], [-5], [-5]])

    def test_send(self):
        set_up = [trick(1, 0, [3], [0], [0]), trick(1, 1, [3], [0], [0]), hall(5, 0, [3])]
        self.assertEqual(ask(*(set_up + [send(100), send(0), start([0]), send(100), send(0),
                                         begin(0), send(100), send(0)]))[3:],
                         [[-1], [-3], [0], [-1], [-5], [1], [-1], [-11]])
        full = set_up + [start([0]), begin(1)] + [send(7)] * 20
        self.assertEqual(ask(*(full + [send(-1), send(7)]))[-2:], [[-1], [-7]])


if __name__ == "__main__":
    unittest.main()

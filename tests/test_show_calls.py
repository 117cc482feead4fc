"""start, begin, send."""

import random
import unittest

from helper import ask, begin, hall, last, plan, props, reset, runs, send, start, told, trick
from cueshows.line import Line
from cueshows.setup_calls import answer_hall, answer_reset, answer_trick
from cueshows.show_calls import answer_begin, answer_send, answer_start


class Start(unittest.TestCase):

    def test_each_condition_in_the_belief_and_no_other(self):
        set_up = [props([6, 3]), hall(9, 0, [0b101001, 0b110])]
        for one in range(6):
            for two in range(3):
                with self.subTest(one=one, two=two):
                    answer = [0] if one in (0, 3, 5) and two in (1, 2) else [-8]
                    self.assertEqual(last(*(set_up + [start([one, two])])), answer)

    def test_a_refused_start_leaves_the_show_off(self):
        self.assertEqual(ask(hall(9, 0, [1]), start([1]), begin(0), hall(9, 0, [2]), start([1]), begin(0)),
                         [[0], [-8], [-3], [0], [0], [-4]])

    def test_the_beginning_beliefs_decide_what_is_sure(self):
        set_up = [props([3]), trick(1, 0, [3], [0], [0]), trick(1, 0, [6], [0], [0])]
        self.assertEqual(ask(*(set_up + [hall(9, 0, [2]), start([1]), begin(0), start([1]), begin(1)]))[-4:],
                         [[0], [1], [0], [1]])
        self.assertEqual(ask(*(set_up + [hall(9, 0, [3]), start([1]), begin(1), begin(0)]))[-2:], [[-10], [1]])

    def test_a_start_while_it_is_on_begins_anew(self):
        set_up = [trick(3, 2, [3], [1], [2]), hall(5, 0, [3])]
        sends = [send(1)] * 20
        found = ask(*(set_up + [start([0]), begin(0)] + sends + [send(1), begin(0), start([1]), send(1), begin(0),
                                                                 send(1)]))
        self.assertEqual(found[-6:], [[-7], [-5], [0], [-5], [1], [1]])

    def test_a_refused_start_while_it_is_on_changes_nothing(self):
        set_up = [trick(3, 2, [1], [1], [2]), hall(5, 0, [1])]
        found = ask(*(set_up + [start([0]), begin(0), send(4), start([1]), start([2]), start([]), begin(0), send(4)]))
        self.assertEqual(found[-5:], [[-8], [-2], [-2], [-5], [2]])

    def test_runs_plan_and_told_answer_while_it_is_on(self):
        set_up = [trick(3, 2, [3], [1], [2]), hall(5, 1, [3])]
        asked = [told(), runs([0]), plan(1)]
        found = ask(*(set_up + asked + [start([0])] + asked + [begin(0)] + asked))
        self.assertEqual(found[2:5], [[1, 2, 1, 3, 2, 3, 1, 2, 0, 5, 1, 3], [1, 3, 1, 3], [1, 3, 1, 0]])
        self.assertEqual(found[6:9], found[2:5])
        self.assertEqual(found[10:13], found[2:5])


class Begin(unittest.TestCase):

    def test_serial_number_of_a_trick_and_0_of_a_reset(self):
        set_up = [trick(1, 0, [3], [0], [0]), trick(2, 5, [3], [0], [0]), reset(1, [3], [0]), reset(1, [3], [1]),
                  hall(2, 0, [3])]
        for item, answer in ((0, 1), (1, 1), (8, 0), (9, 0)):
            with self.subTest(item=item):
                self.assertEqual(ask(*(set_up + [start([0]), begin(item), begin(item)]))[-2:], [[answer], [-5]])

    def test_no_such_item(self):
        set_up = [trick(1, 0, [3], [0], [0]), reset(1, [3], [0]), hall(9, 0, [3]), start([0])]
        for item in (1, 2, 7, 9, 10, 13):
            with self.subTest(item=item):
                self.assertEqual(ask(*(set_up + [begin(item), begin(0)]))[-2:], [[-4], [1]])

    def test_the_last_numbers_there_can_be(self):
        set_up = [trick(1, 0, [3], [0], [0])] * 8 + [reset(1, [3], [0])] * 6 + [hall(9, 0, [3]), start([0])]
        self.assertEqual(last(*(set_up + [begin(7)])), [1])
        self.assertEqual(last(*(set_up + [begin(13)])), [0])

    def test_the_limit(self):
        set_up = [trick(10, 0, [3], [0], [0]), reset(11, [3], [0])]
        for limit, answers in ((9, [-6, -6]), (10, [1, -6]), (11, [1, 0])):
            with self.subTest(limit=limit):
                on = set_up + [hall(limit, 0, [3]), start([0])]
                self.assertEqual([last(*(on + [begin(0)])), last(*(on + [begin(8)]))],
                                 [[answers[0]], [answers[1]]])

    def test_each_prop_must_be_sure(self):
        for beliefs in ([1, 2, 4], [3, 2, 4], [1, 3, 4], [1, 2, 6]):
            with self.subTest(beliefs=beliefs):
                found = last(props([3, 3, 3]), trick(1, 0, [1, 2, 4], [0, 0, 0], [0, 0, 0]), hall(9, 0, beliefs),
                             start([0, 1, 2]), begin(0))
                self.assertEqual(found, [1] if beliefs == [1, 2, 4] else [-10])

    def test_what_is_sure_goes_by_beliefs_not_by_what_actually_is(self):
        self.assertEqual(last(trick(1, 0, [1], [0], [0]), hall(9, 0, [3]), start([0]), begin(0)), [-10])

    def test_each_item_begun_finds_all_props_as_it_needs_them(self):
        chance = random.Random(5)
        begun = 0
        for turn in range(400):
            conditions = [chance.randint(2, 6) for prop in range(chance.randint(1, 4))]
            full = [2 ** count - 1 for count in conditions]
            need = [chance.randint(1, most) | chance.randint(0, most) for most in full]
            beliefs = [chance.randint(1, most) & chance.randint(1, most) or 1 for most in full]
            actual = [chance.randrange(count) for count in conditions]
            found = ask(props(conditions), reset(3, need, full), hall(3, 0, beliefs), start(actual), begin(8))[3:]
            inside = all(belief >> condition & 1 for belief, condition in zip(beliefs, actual))
            self.assertEqual(found[0], [0] if inside else [-8])
            if found[1] == [0]:
                begun += 1
                self.assertTrue(all(needed >> condition & 1 for needed, condition in zip(need, actual)))
                self.assertTrue(all(belief & ~needed == 0 for belief, needed in zip(beliefs, need)))
            elif inside:
                self.assertEqual(found[1], [-10])
                self.assertTrue(any(belief & ~needed for belief, needed in zip(beliefs, need)))
        self.assertGreater(begun, 20)


class BeginBehindOtherItems(unittest.TestCase):
    """What begin says of items done, shown on the object itself."""

    def set_up(self):
        line = Line()
        answer_trick(line, 4, 2, [3], [0], [0])
        answer_trick(line, 6, 2, [1], [0], [0])
        answer_reset(line, 5, [3], [0])
        answer_hall(line, 9, 0, [3])
        answer_start(line, [0])
        return line

    def test_a_trick_that_was_done_is_refused_ahead_of_not_sure_and_the_limit(self):
        line = self.set_up()
        line.show.done = [1]
        line.show.minutes = 9
        self.assertEqual(answer_begin(line, 1), [-9])
        self.assertEqual(answer_begin(line, 2), [-4])
        line.show.done = []
        self.assertEqual(answer_begin(line, 1), [-10])
        self.assertEqual(answer_begin(line, 0), [-6])

    def test_a_reset_may_be_done_again(self):
        line = self.set_up()
        line.show.done = [8]
        self.assertEqual(answer_begin(line, 8), [0])

    def test_minutes_of_all_items_done_count(self):
        for minutes, answer in ((5, [1]), (6, [-6])):
            line = self.set_up()
            line.show.minutes = minutes
            self.assertEqual(answer_begin(line, 0), answer)

    def test_serial_numbers_and_cue_numbers_go_on(self):
        line = self.set_up()
        answer_begin(line, 0)
        self.assertEqual([answer_send(line, 30), answer_send(line, 40)], [[1], [2]])
        line.show.done = [0]
        line.show.doing = -1
        line.show.beliefs = [1]
        line.show.minutes = 3
        self.assertEqual(answer_begin(line, 1), [2])
        self.assertEqual(answer_send(line, 50), [1])
        self.assertEqual([(cue.serial, cue.number, cue.value, cue.age) for cue in line.show.wire],
                         [(1, 1, 30, 0), (1, 2, 40, 0), (2, 1, 50, 0)])


class Send(unittest.TestCase):

    def test_own_numbers_up_to_20_cues(self):
        set_up = [trick(3, 2, [3], [1], [2]), hall(5, 0, [3]), start([0]), begin(0)]
        found = ask(*(set_up + [send(value) for value in range(70, 90)] + [send(1), send(2)]))
        self.assertEqual(found[4:], [[number] for number in range(1, 21)] + [[-7], [-7]])

    def test_a_refused_send_uses_up_no_number(self):
        set_up = [trick(3, 2, [3], [1], [2]), hall(5, 0, [3]), start([0]), begin(0)]
        self.assertEqual(ask(*(set_up + [send(0), send(100), send(-1), send(0)]))[4:], [[1], [-1], [-1], [2]])

    def test_items_that_want_no_cue(self):
        set_up = [trick(3, 0, [3], [1], [2]), reset(3, [3], [1]), trick(3, 1, [3], [1], [2]), hall(5, 0, [3])]
        for item, answer in ((0, -11), (8, -11), (1, 1)):
            with self.subTest(item=item):
                self.assertEqual(last(*(set_up + [start([0]), begin(item), send(0)])), [answer])

    def test_no_item_is_being_done(self):
        set_up = [trick(9, 3, [3], [1], [2]), hall(5, 0, [3])]
        self.assertEqual(ask(*(set_up + [send(0), start([0]), send(0), begin(0), send(0)]))[2:],
                         [[-3], [0], [-5], [-6], [-5]])


if __name__ == "__main__":
    unittest.main()

"""start, begin, finish, close."""

import random
import unittest

from helper import (
    ask, begin, behind, close, deliver, double, finish, glance, hall, last, log, lose, plan, props, reset, runs, send,
    start, state, tick, told, trick, wire,
)


class Start(unittest.TestCase):

    def test_each_condition_in_the_belief_and_no_other(self):
        set_up = [props([6, 3]), hall(9, 0, [0b101001, 0b110])]
        for one in range(6):
            for two in range(3):
                with self.subTest(one=one, two=two):
                    answer = [0] if one in (0, 3, 5) and two in (1, 2) else [-8]
                    self.assertEqual(last(*(set_up + [start([one, two])])), answer)

    def test_a_refused_start_leaves_the_show_off(self):
        self.assertEqual(ask(hall(9, 0, [1]), start([1]), begin(0), hall(9, 0, [2]), start([1]), begin(0)),
                         [[0], [-8], [-3], [0], [0], [-4]])

    def test_the_beginning_beliefs_decide_what_is_sure(self):
        set_up = [props([3]), trick(1, 0, [3], [0], [0]), trick(1, 0, [6], [0], [0])]
        self.assertEqual(ask(*(set_up + [hall(9, 0, [2]), start([1]), begin(0), start([1]), begin(1)]))[-4:],
                         [[0], [1], [0], [1]])
        self.assertEqual(ask(*(set_up + [hall(9, 0, [3]), start([1]), begin(1), begin(0)]))[-2:], [[-10], [1]])

    def test_a_start_while_it_is_on_begins_anew(self):
        set_up = [trick(3, 2, [3], [1], [2]), hall(5, 0, [3])]
        sends = [send(1)] * 20
        found = ask(*(set_up + [start([0]), begin(0)] + sends + [send(1), begin(0), start([1]), send(1), begin(0),
                                                                 send(1)]))
        self.assertEqual(found[-6:], [[-7], [-5], [0], [-5], [1], [1]])

    def test_a_refused_start_while_it_is_on_changes_nothing(self):
        set_up = [trick(3, 2, [1], [1], [2]), hall(5, 0, [1])]
        found = ask(*(set_up + [start([0]), begin(0), send(4), start([1]), start([2]), start([]), begin(0), send(4)]))
        self.assertEqual(found[-5:], [[-8], [-2], [-2], [-5], [2]])

    def test_runs_plan_and_told_answer_while_it_is_on(self):
        set_up = [trick(3, 2, [3], [1], [2]), hall(5, 1, [3])]
        asked = [told(), runs([0]), plan(1)]
        found = ask(*(set_up + asked + [start([0])] + asked + [begin(0)] + asked))
        self.assertEqual(found[2:5], [[1, 2, 1, 3, 2, 3, 1, 2, 0, 5, 1, 3], [1, 3, 1, 3], [1, 3, 1, 0]])
        self.assertEqual(found[6:9], found[2:5])
        self.assertEqual(found[10:13], found[2:5])


class Begin(unittest.TestCase):

    def test_serial_number_of_a_trick_and_0_of_a_reset(self):
        set_up = [trick(1, 0, [3], [0], [0]), trick(2, 5, [3], [0], [0]), reset(1, [3], [0]), reset(1, [3], [1]),
                  hall(2, 0, [3])]
        for item, answer in ((0, 1), (1, 1), (8, 0), (9, 0)):
            with self.subTest(item=item):
                self.assertEqual(ask(*(set_up + [start([0]), begin(item), begin(item)]))[-2:], [[answer], [-5]])

    def test_no_such_item(self):
        set_up = [trick(1, 0, [3], [0], [0]), reset(1, [3], [0]), hall(9, 0, [3]), start([0])]
        for item in (1, 2, 7, 9, 10, 13):
            with self.subTest(item=item):
                self.assertEqual(ask(*(set_up + [begin(item), begin(0)]))[-2:], [[-4], [1]])

    def test_the_last_numbers_there_can_be(self):
        set_up = [trick(1, 0, [3], [0], [0])] * 8 + [reset(1, [3], [0])] * 6 + [hall(9, 0, [3]), start([0])]
        self.assertEqual(last(*(set_up + [begin(7)])), [1])
        self.assertEqual(last(*(set_up + [begin(13)])), [0])

    def test_the_limit(self):
        set_up = [trick(10, 0, [3], [0], [0]), reset(11, [3], [0])]
        for limit, answers in ((9, [-6, -6]), (10, [1, -6]), (11, [1, 0])):
            with self.subTest(limit=limit):
                on = set_up + [hall(limit, 0, [3]), start([0])]
                self.assertEqual([last(*(on + [begin(0)])), last(*(on + [begin(8)]))],
                                 [[answers[0]], [answers[1]]])

    def test_each_prop_must_be_sure(self):
        for beliefs in ([1, 2, 4], [3, 2, 4], [1, 3, 4], [1, 2, 6]):
            with self.subTest(beliefs=beliefs):
                found = last(props([3, 3, 3]), trick(1, 0, [1, 2, 4], [0, 0, 0], [0, 0, 0]), hall(9, 0, beliefs),
                             start([0, 1, 2]), begin(0))
                self.assertEqual(found, [1] if beliefs == [1, 2, 4] else [-10])

    def test_what_is_sure_goes_by_beliefs_not_by_what_actually_is(self):
        self.assertEqual(last(trick(1, 0, [1], [0], [0]), hall(9, 0, [3]), start([0]), begin(0)), [-10])

    def test_each_item_begun_finds_all_props_as_it_needs_them(self):
        chance = random.Random(5)
        begun = 0
        for turn in range(400):
            conditions = [chance.randint(2, 6) for prop in range(chance.randint(1, 4))]
            full = [2 ** count - 1 for count in conditions]
            need = [chance.randint(1, most) | chance.randint(0, most) for most in full]
            beliefs = [chance.randint(1, most) & chance.randint(1, most) or 1 for most in full]
            actual = [chance.randrange(count) for count in conditions]
            found = ask(props(conditions), reset(3, need, full), hall(3, 0, beliefs), start(actual), begin(8))[3:]
            inside = all(belief >> condition & 1 for belief, condition in zip(beliefs, actual))
            self.assertEqual(found[0], [0] if inside else [-8])
            if found[1] == [0]:
                begun += 1
                self.assertTrue(all(needed >> condition & 1 for needed, condition in zip(need, actual)))
                self.assertTrue(all(belief & ~needed == 0 for belief, needed in zip(beliefs, need)))
            elif inside:
                self.assertEqual(found[1], [-10])
                self.assertTrue(any(belief & ~needed for belief, needed in zip(beliefs, need)))
        self.assertGreater(begun, 20)


class BeginBehindOtherItems(unittest.TestCase):
    """What begin says of items done."""

    # Trick 0 is always sure; trick 1 leaves what isn't sure for it any more; trick 2 is done by a cue or its rescue.
    SET_UP = [props([3]), trick(4, 0, [7], [0], [0]), trick(6, 0, [1], [2], [0]), trick(3, 2, [7], [1], [6]),
              reset(5, [7], [0])]

    def on(self, limit):
        return self.SET_UP + [hall(limit, 9, [1]), start([0])]

    def test_a_trick_that_was_done_is_refused_ahead_of_not_sure_and_the_limit(self):
        self.assertEqual(behind(self.on(6), begin(1), finish([1]), begin(1), begin(0), begin(3), begin(8)),
                         [[1], [0], [-9], [-6], [-4], [-6]])
        self.assertEqual(behind(self.on(30), begin(1), finish([1]), begin(1), begin(0), finish([1]), begin(0)),
                         [[1], [0], [-9], [2], [0], [-9]])

    def test_a_trick_being_done_counts_as_done_only_when_it_is_finished(self):
        self.assertEqual(behind(self.on(30), begin(0), begin(0), finish([1]), begin(0), finish([0]), begin(0)),
                         [[1], [-5], [-8], [-5], [0], [-9]])

    def test_a_trick_that_was_rescued_was_done(self):
        self.assertEqual(behind(self.on(30), begin(2), tick(2), finish([2]), begin(2))[2:], [[1], [-9]])

    def test_a_reset_may_be_done_again(self):
        self.assertEqual(behind(self.on(14), begin(8), finish([0]), begin(8), finish([0]), begin(8), begin(0), log()),
                         [[0], [0], [0], [0], [-6], [1], [2, 8, -1, 0, 8, -1, 0]])

    def test_a_new_show_may_do_it_again(self):
        for anew in ([start([0])], [close(), start([0])]):
            with self.subTest(anew=anew):
                found = behind(self.on(6) + [begin(1), finish([1])], begin(1), *(anew + [begin(1)]))
                self.assertEqual([found[0], found[-1]], [[-9], [1]])

    def test_minutes_of_all_items_done_count(self):
        for limit, answer in ((15, [2]), (14, [-6])):
            with self.subTest(limit=limit):
                calls = [begin(0), finish([0]), begin(8), finish([0]), state(), begin(1)]
                self.assertEqual(behind(self.on(limit), *calls)[4:], [[-1, 1, 0, -1, 0, 9, 1], answer])

    def test_minutes_of_the_item_being_done_are_no_minutes_done(self):
        self.assertEqual(behind(self.on(15), begin(1), tick(9), state(), finish([1]), state())[2:],
                         [[1, 1, 9, -1, 0, 0, 1], [0], [-1, 1, 0, -1, 0, 6, 2]])

    def test_minutes_of_another_show_do_not_count(self):
        self.assertEqual(behind(self.on(6), begin(1), finish([1]), start([0]), begin(0), finish([0]), close(),
                                start([0]), begin(1))[3:], [[1], [0], [1], [0], [1]])

    def test_serial_numbers_across_tricks_and_resets(self):
        calls = [begin(8), finish([0]), begin(0), state(), finish([0]), begin(8), state(), finish([0]), begin(2),
                 tick(2), finish([1]), begin(1), state(), begin(8), state()]
        self.assertEqual(behind(self.on(60), *calls), [
            [0], [0], [1], [0, 1, 0, -1, 0, 5, 1], [0], [0], [8, 1, 0, -1, 0, 9, 1], [0], [2],
            [1, 0], [1], [-10], [-1, 2, 0, -1, 0, 17, 6], [0], [8, 2, 0, -1, 0, 17, 6]])

    def test_a_refused_begin_uses_up_no_serial_number(self):
        self.assertEqual(behind(self.on(7), begin(3), begin(14), begin(1), begin(1), finish([1]), begin(1), begin(0),
                                begin(2), state()),
                         [[-4], [-1], [1], [-5], [0], [-9], [-6], [-6], [-1, 1, 0, -1, 0, 6, 2]])


class Finish(unittest.TestCase):

    # Of trick 0 (wait 3) prop 0 is left in 1 or 2, or by its rescue in 3; prop 1 as it was, or by its rescue in 0;
    # prop 2 in 0, or by its rescue as it was.
    SET_UP = [
        props([4, 3, 2]),
        trick(5, 3, [15, 7, 3], [6, 0, 1], [8, 1, 0]),
        trick(7, 0, [15, 7, 3], [9, 0, 2], [4, 4, 1]),
        reset(2, [15, 7, 3], [0, 5, 0]),
        hall(60, 9, [15, 6, 3]),
        start([0, 2, 1]),
    ]

    def allowed(self, before, ends):
        """finish answers -8 but for these ends, and the actual conditions are then those."""
        for one in range(4):
            for two in range(3):
                for three in range(2):
                    actual = [one, two, three]
                    found = behind(before, finish(actual), glance(0), glance(1), glance(2), close())
                    with self.subTest(actual=actual):
                        if actual in ends:
                            self.assertGreaterEqual(found[0][0], 0)
                            self.assertEqual(found[1:], [[one], [two], [three], [1]])
                        else:
                            self.assertEqual(found, [[-8], [0], [2], [1], [0]])

    def test_a_cue_was_taken(self):
        before = self.SET_UP + [begin(0), send(8), deliver(0)]
        self.assertEqual(behind(before, finish([1, 2, 0]), state(), log()),
                         [[0], [-1, 1, 0, -1, 0, 5, 6, 6, 1], [1, 0, 8, 0]])
        self.allowed(before, [[1, 2, 0], [2, 2, 0]])

    def test_rescued(self):
        before = self.SET_UP + [begin(0), tick(3)]
        self.assertEqual(behind(before, finish([3, 0, 1]), state(), log()),
                         [[1], [-1, 1, 0, -1, 0, 5, 8, 1, 3], [1, 0, -1, 1]])
        self.allowed(before, [[3, 0, 1]])

    def test_a_trick_that_wants_no_cue(self):
        before = self.SET_UP + [begin(1), tick(30)]
        self.assertEqual(behind(before, finish([3, 2, 1]), state(), log()),
                         [[0], [-1, 1, 0, -1, 0, 7, 9, 6, 2], [1, 1, -1, 0]])
        self.allowed(before, [[0, 2, 1], [3, 2, 1]])

    def test_a_reset(self):
        before = self.SET_UP + [begin(8)]
        self.assertEqual(behind(before, finish([0, 0, 1]), state(), log()),
                         [[0], [-1, 0, 0, -1, 0, 2, 15, 5, 3], [1, 8, -1, 0]])
        self.allowed(before, [[0, 0, 1], [0, 2, 1]])

    def test_neither_taken_nor_rescued(self):
        wanted = self.SET_UP + [begin(0)]
        earlier = self.SET_UP + [begin(8), finish([0, 2, 1]), begin(0)]
        for before in (wanted, wanted + [tick(2)], wanted + [send(1)], wanted + [send(1), tick(2), lose(0)], earlier):
            with self.subTest(before=before):
                for actual in ([1, 2, 0], [3, 0, 1], [0, 0, 0]):
                    self.assertEqual(behind(before, finish(actual), begin(0)), [[-13], [-5]])
                self.assertEqual(behind(before, tick(3), finish([3, 0, 1]))[1], [1])
                self.assertEqual(behind(before, send(4), deliver(0), finish([2, 2, 0]))[2], [0])

    def test_only_cues_of_this_trick_help(self):
        # Trick 0 is there twice.
        set_up = self.SET_UP[:2] + self.SET_UP[1:2] + self.SET_UP[4:]
        calls = [begin(0), send(1), double(0), deliver(0), finish([1, 2, 0]), begin(1), deliver(0), finish([1, 2, 0])]
        self.assertEqual(behind(set_up, *calls)[3:], [[1, 1], [0], [2], [0], [-13]])

    def test_0_is_as_it_was_when_it_was_begun_not_what_is_believed(self):
        # Believed of prop 1 are 1 and 2; it is 2.
        before = self.SET_UP + [begin(1)]
        self.assertEqual(behind(before, finish([0, 1, 1]), finish([0, 2, 1]), glance(1)), [[-8], [0], [2]])
        again = before + [finish([3, 2, 1]), begin(8), finish([3, 0, 1]), begin(8)]
        self.assertEqual(behind(again, finish([0, 0, 1]), finish([3, 0, 0]), finish([3, 2, 1])), [[-8], [-8], [0]])

    def test_beliefs_with_glances_meanwhile(self):
        glances = [glance(0), glance(1), glance(2)]
        taken = self.SET_UP + [begin(0), send(8), deliver(0)]
        self.assertEqual(behind(taken + glances, finish([1, 2, 0]), state())[1], [-1, 1, 0, -1, 0, 5, 6, 4, 1])
        rescued = self.SET_UP + [begin(0), tick(3)]
        self.assertEqual(behind(rescued + glances, finish([3, 0, 1]), state())[1], [-1, 1, 0, -1, 0, 5, 8, 1, 2])
        plain = self.SET_UP + [begin(1)]
        self.assertEqual(behind(plain + glances, finish([3, 2, 1]), state())[1], [-1, 1, 0, -1, 0, 7, 9, 4, 2])
        again = self.SET_UP + [begin(8)]
        self.assertEqual(behind(again + glances, finish([0, 0, 1]), state())[1], [-1, 0, 0, -1, 0, 2, 1, 5, 2])

    def test_beliefs_with_glances_ahead_of_it(self):
        before = self.SET_UP + [glance(1), begin(0), tick(2), send(8), deliver(0)]
        self.assertEqual(behind(before, finish([1, 2, 0]), state())[1], [-1, 1, 0, -1, 0, 5, 6, 4, 1])

    def test_both_ways_are_believed_ahead_and_one_alone_behind(self):
        self.assertEqual(last(*(self.SET_UP + [runs([0])])), [1, 5, 0, 14, 7, 3])
        taken = [begin(0), send(8), deliver(0), finish([2, 2, 0])]
        rescued = [begin(0), tick(4), finish([3, 0, 1])]
        self.assertEqual(behind(self.SET_UP + taken, state())[0][6:], [6, 6, 1])
        self.assertEqual(behind(self.SET_UP + rescued, state())[0][6:], [8, 1, 3])

    def test_what_is_believed_behind_it_decides_what_is_sure(self):
        set_up = [trick(1, 2, [3], [1], [2]), trick(1, 0, [1], [0], [0]), trick(1, 0, [2], [0], [0]), hall(60, 5, [3]),
                  start([1])]
        self.assertEqual(behind(set_up, begin(0), send(1), deliver(0), finish([0]), begin(2), begin(1))[4:],
                         [[-10], [2]])
        self.assertEqual(behind(set_up, begin(0), tick(2), finish([1]), begin(1), begin(2))[3:], [[-10], [2]])

    def test_the_wire_stays(self):
        before = self.SET_UP + [begin(0), send(8), tick(1), send(9), deliver(0)]
        self.assertEqual(behind(before, wire(), finish([1, 2, 0]), wire()), [[1, 1, 2, 9, 0], [0], [1, 1, 2, 9, 0]])
        before = self.SET_UP + [begin(0), send(8), tick(3), send(9)]
        self.assertEqual(behind(before, finish([3, 0, 1]), wire()), [[1], [2, 1, 1, 8, 3, 1, 2, 9, 0]])

    def test_no_item_is_being_done_behind_it(self):
        before = self.SET_UP + [begin(8), finish([0, 0, 1])]
        for call in (send(1), lose(0), double(0), deliver(0), tick(1), finish([0, 0, 1])):
            with self.subTest(call=call):
                self.assertEqual(last(*(before + [call])), [-5])

    def test_what_is_told_and_planned_stays(self):
        asked = [told(), runs([0, 8]), plan(200)]
        found = behind(self.SET_UP, *(asked + [begin(8), finish([0, 0, 1]), glance(0)] + asked))
        self.assertEqual(found[:3], found[-3:])


class Close(unittest.TestCase):

    SET_UP = [trick(3, 2, [3], [0], [2]), trick(4, 0, [3], [0], [0]), reset(2, [3], [0]), hall(12, 7, [3])]

    def test_answers_how_many_items_were_done(self):
        on = self.SET_UP + [start([0])]
        self.assertEqual(behind(on, close()), [[0]])
        self.assertEqual(behind(on, begin(8), finish([0]), close())[-1], [1])
        self.assertEqual(behind(on, begin(8), finish([0]), begin(1), finish([0]), begin(8), finish([0]), close())[-1],
                         [3])

    def test_the_show_is_not_on_any_more(self):
        calls = [begin(0), send(0), lose(0), double(0), deliver(0), tick(1), finish([0]), glance(0), state(), log(),
                 wire(), close()]
        for before in ([], [begin(8)], [begin(0), send(1)]):
            with self.subTest(before=before):
                found = behind(self.SET_UP + [start([0])] + before + [close()], *calls)
                self.assertEqual(found, [[-3]] * len(calls))

    def test_an_item_being_done_is_left(self):
        calls = [begin(8), finish([0]), begin(0), send(5), send(6), close(), start([1]), state(), log(), wire(),
                 begin(0), send(7), wire()]
        self.assertEqual(behind(self.SET_UP + [start([0])], *calls)[5:], [
            [1], [0], [-1, 0, 0, -1, 0, 0, 3], [0], [0], [1], [1], [1, 1, 1, 7, 0]])

    def test_a_start_behind_it_finds_nothing_done(self):
        calls = [begin(0), send(5), send(6), deliver(0), glance(0), finish([0]), begin(1), finish([0]), close(),
                 start([1]), state(), log(), wire(), begin(1), state(), glance(0)]
        self.assertEqual(behind(self.SET_UP + [start([0])], *calls)[8:], [
            [2], [0], [-1, 0, 0, -1, 0, 0, 3], [0], [0], [1], [1, 1, 0, -1, 0, 0, 3], [1]])

    def test_a_start_while_it_is_on_finds_nothing_done(self):
        calls = [begin(0), send(5), send(6), deliver(0), glance(0), finish([0]), begin(0), begin(1), tick(3),
                 start([1]), state(), log(), wire(), begin(0), state(), glance(0), close()]
        self.assertEqual(behind(self.SET_UP + [start([0])], *calls)[6:], [
            [-9], [2], [0, 1], [0], [-1, 0, 0, -1, 0, 0, 3], [0], [0], [1], [0, 1, 0, -1, 0, 0, 3], [1], [0]])

    def test_calls_0_to_3_are_answered_again(self):
        found = behind(self.SET_UP + [start([0]), begin(0), close()], trick(1, 0, [1], [0], [0]), reset(1, [1], [0]),
                       hall(5, 5, [1]), told(), props([2, 2]), told())
        self.assertEqual(found[:3] + found[4:], [[2], [1], [0], [2], [2, 2, 2, 0, 0, 0, 0, 3, 3]])
        self.assertEqual(found[3], [1, 2, 3, 3, 2, 3, 0, 2, 4, 0, 3, 0, 0, 1, 0, 1, 0, 0, 2, 2, 3, 0, 1, 1, 0, 5, 5, 1])

    def test_what_is_set_up_stays(self):
        found = behind(self.SET_UP, told(), start([0]), glance(0), begin(8), finish([0]), close(), told())
        self.assertEqual(found[0], found[-1])


if __name__ == "__main__":
    unittest.main()

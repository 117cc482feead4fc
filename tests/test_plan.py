"""plan: cases by hand, and against plain searches written on their own."""

import random
import time
import unittest

from helper import ask, hall, joined, last, plan, props, reset, runs, told, trick
from cueshows.shows import answers


class ByHand(unittest.TestCase):

    def test_no_tricks_at_all(self):
        self.assertEqual(ask(plan(0), plan(200)), [[1, 0, 0], [1, 0, 0]])
        self.assertEqual(last(reset(1, [3], [1]), hall(480, 0, [3]), plan(0)), [1, 0, 0])

    def test_one_trick_needs_one_step(self):
        set_up = [trick(4, 0, [3], [0], [0]), hall(4, 0, [3])]
        self.assertEqual(ask(*(set_up + [plan(0), plan(1), plan(2)]))[2:], [[2], [1, 4, 1, 0], [1, 4, 1, 0]])

    def test_a_plan_that_needs_a_reset(self):
        set_up = [trick(4, 0, [1], [2], [0]), trick(5, 0, [1], [2], [0]), reset(3, [2], [1]), hall(12, 0, [1])]
        self.assertEqual(last(*(set_up + [plan(200)])), [1, 12, 3, 0, 8, 1])
        self.assertEqual(last(*(set_up + [hall(11, 0, [1]), plan(200)])), [0])

    def test_the_same_reset_twice(self):
        one = trick(4, 0, [1], [2], [0])
        set_up = [one, one, one, reset(3, [3], [1]), hall(30, 0, [1])]
        self.assertEqual(last(*(set_up + [plan(200)])), [1, 18, 5, 0, 8, 1, 8, 2])

    def test_the_cheaper_of_two_resets(self):
        set_up = [trick(4, 0, [1], [0], [0]), reset(3, [3], [1]), reset(2, [3], [1]), hall(30, 0, [3])]
        self.assertEqual(last(*(set_up + [plan(200)])), [1, 6, 2, 9, 0])

    def test_with_the_same_minutes_the_first_in_order(self):
        set_up = [trick(4, 0, [3], [0], [0]), trick(4, 0, [3], [0], [0]), hall(30, 0, [3])]
        self.assertEqual(last(*(set_up + [plan(200)])), [1, 8, 2, 0, 1])
        set_up = [trick(4, 0, [1], [0], [0]), reset(2, [3], [1]), reset(2, [3], [1]), hall(30, 0, [3])]
        self.assertEqual(last(*(set_up + [plan(200)])), [1, 6, 2, 8, 0])

    def test_order_goes_by_the_first_place_not_by_how_many(self):
        # One reset or two of the same minutes together: the number at the first place decides.
        set_up = [props([3]), trick(1, 0, [2], [0], [0]),
                  reset(2, [1], [4]), reset(2, [4], [2]), reset(4, [1], [2]), hall(30, 0, [1])]
        self.assertEqual(last(*(set_up + [plan(200)])), [1, 5, 3, 8, 9, 0])
        set_up = [props([3]), trick(1, 0, [2], [0], [0]),
                  reset(4, [1], [2]), reset(2, [1], [4]), reset(2, [4], [2]), hall(30, 0, [1])]
        self.assertEqual(last(*(set_up + [plan(200)])), [1, 5, 2, 8, 0])

    def test_none(self):
        self.assertEqual(last(trick(4, 0, [1], [0], [0]), hall(480, 0, [3]), plan(1)), [0])
        self.assertEqual(last(trick(4, 0, [3], [0], [0]), hall(3, 0, [3]), plan(1)), [0])
        self.assertEqual(last(trick(4, 0, [3], [0], [0]), plan(1)), [0])
        self.assertEqual(last(trick(4, 0, [3], [0], [0]), plan(0)), [2])

    def test_none_though_resets_could_go_on_without_end(self):
        set_up = [trick(4, 0, [1], [0], [0]), reset(1, [3], [0]), reset(1, [3], [2]), hall(480, 0, [3])]
        self.assertEqual(ask(*(set_up + [plan(1), plan(2), plan(200)]))[4:], [[2], [0], [0]])

    def test_a_trick_that_wants_a_cue_must_do_both_ways(self):
        first = trick(4, 2, [1], [1], [2])
        second = trick(4, 0, [1], [0], [0])
        self.assertEqual(last(first, second, hall(8, 0, [1]), plan(200)), [1, 8, 2, 1, 0])
        self.assertEqual(last(first, first, hall(8, 0, [1]), plan(200)), [0])
        self.assertEqual(last(trick(4, 0, [1], [1], [2]), second, hall(8, 0, [1]), plan(200)), [1, 8, 2, 0, 1])

    def test_just_as_many_steps_as_are_needed(self):
        # Tricks 0, 1, 2 one after another, no other way: the steps are [], [0], [0, 1].
        set_up = [props([4]), trick(2, 0, [1], [2], [0]), trick(3, 0, [2], [4], [0]), trick(4, 0, [4], [8], [0]),
                  hall(9, 0, [1])]
        found = [1, 9, 3, 0, 1, 2]
        self.assertEqual(ask(*(set_up + [plan(2), plan(3), plan(4)]))[5:], [[2], found, found])

    def test_what_is_left_out_is_no_step(self):
        # Three tricks in any order with beliefs as they were: one step for each set of tricks but the whole one.
        one = trick(2, 0, [3], [0], [0])
        set_up = [one, one, one, hall(6, 0, [3])]
        self.assertEqual(ask(*(set_up + [plan(6), plan(7)]))[4:], [[2], [1, 6, 3, 0, 1, 2]])

    def test_nothing_changes(self):
        set_up = [trick(4, 2, [1], [1], [2]), reset(3, [3], [1]), hall(8, 0, [3])]
        found = ask(*(set_up + [told(), plan(200), plan(200), told()]))
        self.assertEqual(found[4], [1, 7, 2, 8, 0])
        self.assertEqual(found[4], found[5])
        self.assertEqual(found[3], found[6])


def conditions_of(number):
    return frozenset(place for place in range(6) if number >> place & 1)


class SmallShow:
    """A small show by chance, with sets of conditions as Python's own sets."""

    def __init__(self, chance, most_minutes, most_limit):
        self.conditions = [chance.randint(2, 3) for prop in range(chance.randint(1, 2))]
        self.calls = [props(self.conditions)]
        self.items = {}
        for number in range(chance.randint(1, 3)):
            self.put(chance, number, chance.randint(1, most_minutes), chance.choice([0, 0, 3]))
        for number in range(8, 8 + chance.randint(0, 2)):
            self.put(chance, number, chance.randint(1, most_minutes), None)
        self.limit = chance.randint(0, most_limit)
        beliefs = [self.chosen(chance) for most in self.full()]
        beliefs = [belief & most or 1 for belief, most in zip(beliefs, self.full())]
        self.beliefs = tuple(conditions_of(belief) for belief in beliefs)
        self.calls.append(hall(self.limit, 0, beliefs))
        self.tricks = frozenset(number for number in self.items if number < 8)

    def full(self):
        return [2 ** count - 1 for count in self.conditions]

    def chosen(self, chance):
        return chance.choice([1, 1, 2, 3, 4, 7])

    def put(self, chance, number, minutes, wait):
        need = [chance.randint(1, most) | chance.randint(1, most) for most in self.full()]
        leave = [chance.choice([0, chance.randint(0, most), 1]) for most in self.full()]
        rescue = [chance.choice([0, chance.randint(0, most)]) for most in self.full()]
        if wait is None:
            self.calls.append(reset(minutes, need, leave))
        else:
            self.calls.append(trick(minutes, wait, need, leave, rescue))
        ways = [leave, rescue] if wait else [leave]
        self.items[number] = (minutes, need, ways)

    def behind(self, number, beliefs):
        """The beliefs behind an item, None if it isn't sure."""
        minutes, need, ways = self.items[number]
        found = []
        for place, belief in enumerate(beliefs):
            if not belief <= conditions_of(need[place]):
                return None
            after = frozenset()
            for way in ways:
                after |= conditions_of(way[place]) if way[place] else belief
            found.append(after)
        return tuple(found)

    def longer(self, order, minutes, beliefs):
        for number in sorted(self.items):
            spent = minutes + self.items[number][0]
            after = self.behind(number, beliefs)
            if after is not None and spent <= self.limit and not (number < 8 and number in order):
                yield order + (number,), spent, after

    def all_plans(self):
        """Each plan that runs, with its minutes and beliefs."""
        found = [((), 0, self.beliefs)]
        for one in found:
            found.extend(self.longer(*one))
        return found

    def best(self):
        whole = [(minutes, order) for order, minutes, beliefs in self.all_plans() if self.tricks <= set(order)]
        return min(whole) if whole else None

    def searched(self, steps):
        """The search, as its words go."""
        waiting = [((), 0, self.beliefs)]
        before = []
        while waiting:
            taken = min(waiting, key=lambda one: (one[1], one[0]))
            waiting.remove(taken)
            done = self.tricks & set(taken[0])
            if (done, taken[2]) in before:
                continue
            if done == self.tricks:
                return [1, taken[1], len(taken[0])] + list(taken[0])
            if steps == 0:
                return [2]
            steps -= 1
            before.append((done, taken[2]))
            waiting.extend(self.longer(*taken))
        return [0]


class AgainstAllPlans(unittest.TestCase):

    def test_the_plan_found_runs_is_whole_and_none_has_fewer_minutes(self):
        chance = random.Random(11)
        outcomes = {}
        for turn in range(400):
            show = SmallShow(chance, 4, 9)
            best = show.best()
            answer = last(*(show.calls + [plan(200)]))
            outcomes[answer[0]] = outcomes.get(answer[0], 0) + 1
            if best is None:
                self.assertEqual(answer, [0], show.calls)
                continue
            self.assertEqual(answer, [1, best[0], len(best[1])] + list(best[1]), show.calls)
            ran = last(*(show.calls + [runs(answer[3:])]))
            self.assertEqual(ran[:3], [1, best[0], 1], show.calls)
        self.assertGreater(min(outcomes[0], outcomes[1]), 60)

    def test_runs_of_each_plan_that_runs(self):
        chance = random.Random(12)
        for turn in range(60):
            show = SmallShow(chance, 4, 7)
            for order, minutes, beliefs in show.all_plans()[:40]:
                whole = 1 if show.tricks <= set(order) else 0
                numbers = [sum(2 ** one for one in belief) for belief in beliefs]
                self.assertEqual(last(*(show.calls + [runs(list(order))])), [1, minutes, whole] + numbers, show.calls)
                longer = {one[0][-1] for one in show.longer(order, minutes, beliefs)}
                for number in range(14):
                    answer = last(*(show.calls + [runs(list(order) + [number])]))
                    self.assertEqual(answer[0], 1 if number in longer else 0, show.calls)

    def test_the_search_with_each_number_of_steps(self):
        chance = random.Random(13)
        outcomes = {}
        for turn in range(300):
            show = SmallShow(chance, 5, 40)
            for steps in (0, 1, 2, 3, 5, 8, 13, 200):
                expected = show.searched(steps)
                outcomes[expected[0]] = outcomes.get(expected[0], 0) + 1
                self.assertEqual(last(*(show.calls + [plan(steps)])), expected, (show.calls, steps))
        self.assertGreater(min(outcomes[0], outcomes[1], outcomes[2]), 100)


class Large(unittest.TestCase):

    def test_20_plans_of_200_steps_with_8_tricks_and_6_resets(self):
        full = [63, 63, 63, 63]
        calls = [props([6, 6, 6, 6])]
        for number in range(8):
            calls.append(trick(7 + number, 3, full, [1 << number % 6, 3, 0, 7], [0, 1 << number % 5, 9, 0]))
        for number in range(6):
            calls.append(reset(1 + number, full, [1 << number, 0, 1 << 5 - number, 0]))
        calls.append(hall(480, 20, full))
        begun = time.monotonic()
        given = answers(joined(calls + [plan(200)] * 20))
        self.assertLess(time.monotonic() - begun, 20)
        self.assertEqual(given[-40:], [1, 2] * 20)

    def test_a_plan_found_longer_than_30(self):
        # The resets count up from 0 0 0 0 to 2 2 1 1, each where it carries, so there's one way alone.
        calls = [props([3, 3, 2, 2]), trick(1, 0, [4, 4, 2, 2], [0, 0, 0, 0], [0, 0, 0, 0])]
        calls.append(reset(1, [1, 7, 3, 3], [2, 0, 0, 0]))
        calls.append(reset(1, [2, 7, 3, 3], [4, 0, 0, 0]))
        calls.append(reset(1, [4, 1, 3, 3], [1, 2, 0, 0]))
        calls.append(reset(1, [4, 2, 3, 3], [1, 4, 0, 0]))
        calls.append(reset(1, [4, 4, 1, 3], [1, 1, 2, 0]))
        calls.append(reset(1, [4, 4, 2, 1], [1, 1, 1, 2]))
        calls.append(hall(36, 0, [1, 1, 1, 1]))
        lower = [8, 9, 10, 8, 9, 11, 8, 9]
        order = lower + [12] + lower + [13] + lower + [12] + lower + [0]
        self.assertEqual(ask(*(calls + [plan(35), plan(36), hall(35, 0, [1, 1, 1, 1]), plan(200)]))[-4:],
                         [[2], [1, 36, 36] + order, [0], [0]])


if __name__ == "__main__":
    unittest.main()

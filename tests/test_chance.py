"""Long lines of calls drawn by chance: against a plain model of a show, and by the promises alone."""

import random
import unittest

from helper import (
    HUGE, ask, begin, behind, close, deliver, double, finish, glance, hall, joined, last, log, lose, plan, props,
    reset, runs, send, start, state, tick, told, trick, wire,
)
from cueshows.shows import answers


def conditions_of(number):
    return frozenset(place for place in range(6) if number >> place & 1)


def number_of(conditions):
    return sum(2 ** condition for condition in conditions)


class SetUp:
    """Props, tricks, resets and a hall by chance, easy enough that items are often sure."""

    def __init__(self, chance, most_limit=480):
        self.conditions = [chance.randint(2, 6) for prop in range(chance.randint(1, 4))]
        self.full = [2 ** count - 1 for count in self.conditions]
        self.items = {}
        self.calls = [props(self.conditions)]
        for number in range(chance.randint(1, 8)):
            self.put(chance, number, chance.choice([0, 1, 2, 3, 5, 9, 20]))
        for number in range(8, 8 + chance.randint(0, 6)):
            self.put(chance, number, None)
        self.limit = chance.randint(most_limit // 4, most_limit)
        self.delay = chance.choice([0, 1, 2, 4, 9, 20])
        self.beliefs = [self.some(chance, most) for most in self.full]
        self.calls.append(hall(self.limit, self.delay, self.beliefs))
        # How many cues there are to be ahead of the first loss, and how soon items are finished.
        self.many = chance.choice([0, 3, 19])
        self.haste = chance.choice([0.1, 0.9])

    def some(self, chance, most):
        return chance.randint(1, most) & chance.randint(1, most) or 1

    def put(self, chance, number, wait):
        minutes = chance.randint(1, 20)
        need = [chance.choice([most, most, most, chance.randint(1, most)]) for most in self.full]
        leave = [chance.choice([0, self.some(chance, most)]) for most in self.full]
        rescue = [chance.choice([0, self.some(chance, most)]) for most in self.full]
        self.calls.append(reset(minutes, need, leave) if wait is None else trick(minutes, wait, need, leave, rescue))
        self.items[number] = {"minutes": minutes, "wait": wait or 0, "need": need, "leave": leave, "rescue": rescue}


class Model:
    """A show by a clock of its own: cues keep when they were sent, items when they were begun."""

    def __init__(self, set_up):
        self.set_up = set_up
        self.on = False
        self.cues = []
        self.doing = None

    def start(self, actual):
        if any(condition not in conditions_of(belief) for condition, belief in zip(actual, self.set_up.beliefs)):
            return [-8]
        self.on = True
        self.actual = list(actual)
        self.beliefs = [conditions_of(belief) for belief in self.set_up.beliefs]
        self.clock = 0
        self.cues = []
        self.performed = []
        self.doing = None
        return [0]

    def item(self):
        return self.set_up.items[self.doing["number"]]

    def serial(self):
        begun = self.performed + ([self.doing] if self.doing else [])
        return sum(1 for one in begun if one["number"] < 8)

    def minutes(self):
        return sum(self.set_up.items[one["number"]]["minutes"] for one in self.performed)

    def passed(self):
        return self.clock - self.doing["since"]

    def rescued(self):
        return self.item()["wait"] > 0 and self.doing["taken"] is None and self.passed() >= self.item()["wait"]

    def lacks_cue(self):
        return self.item()["wait"] > 0 and self.doing["taken"] is None and self.passed() < self.item()["wait"]

    def begin(self, number):
        item = self.set_up.items.get(number)
        if self.doing:
            return [-5]
        if item is None:
            return [-4]
        if number < 8 and number in [one["number"] for one in self.performed]:
            return [-9]
        if any(belief - conditions_of(need) for belief, need in zip(self.beliefs, item["need"])):
            return [-10]
        if self.minutes() + item["minutes"] > self.set_up.limit:
            return [-6]
        self.doing = {"number": number, "since": self.clock, "taken": None, "sent": 0}
        return [self.serial() if number < 8 else 0]

    def send(self, value):
        if self.item()["wait"] == 0:
            return [-11]
        if len(self.cues) == 20:
            return [-7]
        self.doing["sent"] += 1
        self.cues.append((self.serial(), self.doing["sent"], value, self.clock))
        return [self.doing["sent"]]

    def lose(self, place):
        if place >= len(self.cues):
            return [-12]
        self.cues = self.cues[:place] + self.cues[place + 1:]
        return [len(self.cues)]

    def double(self, place):
        if place >= len(self.cues):
            return [-12]
        if len(self.cues) == 20:
            return [-7]
        self.cues = self.cues[:place + 1] + self.cues[place:]
        return [len(self.cues)]

    def deliver(self, place):
        if place >= len(self.cues):
            return [-12]
        serial, own, value, sent_at = self.cues[place]
        self.cues = self.cues[:place] + self.cues[place + 1:]
        if serial == self.serial() and self.lacks_cue():
            self.doing["taken"] = value
            return [1, value]
        return [0]

    def tick(self, ticks):
        self.clock += ticks
        self.cues = [cue for cue in self.cues if self.clock - cue[3] <= self.set_up.delay]
        return [int(self.rescued()), len(self.cues)]

    def way(self):
        return self.item()["rescue" if self.rescued() else "leave"]

    def ends(self):
        """For each prop the conditions that it may be in when the item is finished."""
        return [sorted(conditions_of(left)) if left else [was] for left, was in zip(self.way(), self.actual)]

    def finish(self, actual):
        if self.lacks_cue():
            return [-13]
        if any(condition not in end for condition, end in zip(actual, self.ends())):
            return [-8]
        self.beliefs = [conditions_of(left) if left else belief for left, belief in zip(self.way(), self.beliefs)]
        self.actual = list(actual)
        rescued = int(self.rescued())
        self.doing["rescued"] = rescued
        self.performed.append(self.doing)
        self.doing = None
        return [rescued]

    def glance(self, prop):
        if prop >= len(self.actual):
            return [-4]
        self.beliefs[prop] = frozenset([self.actual[prop]])
        return [self.actual[prop]]

    def state(self):
        beliefs = [number_of(belief) for belief in self.beliefs]
        if self.doing is None:
            return [-1, self.serial(), 0, -1, 0, self.minutes()] + beliefs
        taken = -1 if self.doing["taken"] is None else self.doing["taken"]
        return [self.doing["number"], self.serial(), self.passed(), taken, int(self.rescued()),
                self.minutes()] + beliefs

    def log(self):
        found = [len(self.performed)]
        for one in self.performed:
            found += [one["number"], -1 if one["taken"] is None else one["taken"], one["rescued"]]
        return found

    def wire(self):
        found = [len(self.cues)]
        for serial, own, value, sent_at in self.cues:
            found += [serial, own, value, self.clock - sent_at]
        return found

    def close(self):
        self.on = False
        return [len(self.performed)]

    RANGES = {8: (0, 13), 9: (0, 99), 10: (0, 19), 11: (0, 19), 12: (0, 19), 13: (1, 30), 15: (0, 3)}
    NAMES = {7: "start", 8: "begin", 9: "send", 10: "lose", 11: "double", 12: "deliver", 13: "tick", 14: "finish",
             15: "glance", 16: "state", 17: "log", 18: "wire", 19: "close"}

    def answer(self, call):
        kind = call[0]
        if kind in self.RANGES and not self.RANGES[kind][0] <= call[1] <= self.RANGES[kind][1]:
            return [-1]
        given = call[1:]
        if kind in (7, 14):
            given = [call[2:]]
            if len(call[2:]) != len(self.set_up.conditions):
                return [-2]
            if any(not 0 <= one < count for one, count in zip(call[2:], self.set_up.conditions)):
                return [-2]
        if kind >= 8 and not self.on:
            return [-3]
        if 9 <= kind <= 14 and self.doing is None:
            return [-5]
        return getattr(self, self.NAMES[kind])(*given)


def chosen(chance, sets):
    return [chance.choice(sorted(one)) for one in sets]


def drawn(chance, model):
    """A call by chance that often fits what is so now."""
    if chance.random() < 0.04:
        make = chance.choice([begin, send, lose, double, deliver, tick, glance])
        return make(chance.choice([-1, 0, 14, 20, 31, 100, 4, HUGE, -HUGE]))
    if not model.on or chance.random() < 0.01:
        if chance.random() < 0.2:
            return chance.choice([begin(0), tick(1), glance(0), state(), log(), wire(), close(), start([9])])
        return start(chosen(chance, [conditions_of(belief) for belief in model.set_up.beliefs]))
    if chance.random() < 0.15:
        return chance.choice([glance(chance.randrange(4)), state(), state(), log(), wire()])
    if chance.random() < 0.006:
        return close()
    if model.doing is None and chance.random() < 0.9:
        return begin(chance.choice(sorted(model.set_up.items) + list(range(14))))
    return drawn_in_item(chance, model)


def drawn_in_item(chance, model):
    draw = chance.random()
    if draw < 0.25:
        return send(chance.randrange(100))
    if draw < 0.65:
        make = chance.choice([lose, double, deliver] if len(model.cues) > model.set_up.many else [double, deliver])
        return make(chance.randrange(min(20, len(model.cues) + 1)))
    if draw < 0.75:
        return tick(chance.choice([1, 1, 1, 1, 2, 3, 30]))
    if draw < 0.77:
        return finish([chance.randrange(7) for prop in range(chance.randint(0, 5))])
    if draw < 0.81 or model.doing is None:
        return finish([chance.randrange(count) for count in model.set_up.conditions])
    if model.lacks_cue() and chance.random() < 0.8:
        return deliver(len(model.cues) - 1) if model.cues else send(chance.randrange(100))
    return finish(chosen(chance, model.ends())) if chance.random() < model.set_up.haste else state()


def drawn_line(chance, length):
    """Set-up, calls drawn by chance behind it, and what the model answers to those."""
    set_up = SetUp(chance)
    model = Model(set_up)
    calls = []
    expected = []
    while len(set_up.calls) + len(calls) < length:
        call = drawn(chance, model)
        calls.append(call)
        expected.append(model.answer(call))
    return set_up, calls, expected


class AgainstTheModel(unittest.TestCase):

    def test_lines_of_200_calls(self):
        chance = random.Random(51)
        seen = {}
        for turn in range(300):
            set_up, calls, expected = drawn_line(chance, 200)
            found = behind(set_up.calls, *calls)
            for place, call in enumerate(calls):
                if found[place] != expected[place]:
                    self.fail("%r: %r, not %r, behind %r" % (call, found[place], expected[place],
                                                             set_up.calls + calls[:place]))
                kind = (call[0], min(expected[place][0], 0), len(expected[place]) > 1)
                seen[kind] = seen.get(kind, 0) + 1
        # Chance is to have brought each refusal and each way of these calls.
        for call, refusals in ((10, (-1, -3, -5, -12)), (11, (-1, -3, -5, -12, -7)), (12, (-1, -3, -5, -12)),
                               (13, (-1, -3, -5)), (14, (-2, -5, -13, -8)), (15, (-1, -3, -4)), (16, (-3,)),
                               (17, (-3,)), (18, (-3,)), (19, (-3,)), (8, (-1, -3, -4, -5, -6, -9, -10)),
                               (9, (-1, -3, -5, -11, -7))):
            for refusal in refusals:
                self.assertGreater(seen.get((call, refusal, False), 0), 0, (call, refusal))
        for kind in ((10, 0, False), (11, 0, False), (12, 0, False), (12, 0, True), (13, 0, True), (14, 0, False)):
            self.assertGreater(seen.get(kind, 0), 100, kind)


class ByThePromises(unittest.TestCase):
    """What is asked here goes by the program's own answers, with a line anew for each place that is looked at."""

    def test_what_actually_is_is_among_what_is_believed(self):
        chance = random.Random(52)
        looked = 0
        for turn in range(12):
            set_up, calls, expected = drawn_line(chance, 190)
            glances = [glance(prop) for prop in range(len(set_up.conditions))]
            for place in range(len(calls) + 1):
                before = set_up.calls + calls[:place]
                found = behind(before, state(), *glances)
                if found[0] == [-3]:
                    continue
                looked += 1
                for belief, actual in zip(found[0][6:], found[1:]):
                    self.assertIn(actual[0], conditions_of(belief), before)
        self.assertGreater(looked, 1000)

    def test_an_item_that_is_begun_finds_all_props_as_it_needs_them(self):
        chance = random.Random(53)
        begun = 0
        for turn in range(60):
            set_up, calls, expected = drawn_line(chance, 190)
            glances = [glance(prop) for prop in range(len(set_up.conditions))]
            found = behind(set_up.calls, *calls)
            for place, call in enumerate(calls):
                if call[0] != 8 or found[place][0] < 0:
                    continue
                begun += 1
                before = set_up.calls + calls[:place + 1]
                for need, actual in zip(set_up.items[call[1]]["need"], behind(before, *glances)):
                    self.assertIn(actual[0], conditions_of(need), before)
        self.assertGreater(begun, 300)

    def test_a_cue_that_is_taken_was_sent_in_this_trick_once_within_its_wait(self):
        chance = random.Random(54)
        taken = 0
        for turn in range(120):
            set_up, calls, expected = drawn_line(chance, 190)
            found = behind(set_up.calls, *calls)
            sent = {}
            takers = []
            item = None
            for place, call in enumerate(calls):
                answer = found[place]
                if call[0] in (7, 19) and answer[0] >= 0:
                    sent, takers, item = {}, [], None
                elif call[0] == 8 and answer[0] >= 0:
                    item, serial, ticks = call[1], answer[0], 0
                elif call[0] == 9 and answer[0] > 0:
                    sent[(serial, answer[0])] = call[1]
                elif call[0] == 13 and answer[0] >= 0:
                    ticks += call[1]
                elif call[0] == 14 and answer[0] >= 0:
                    self.assertEqual(answer[0] == 0, set_up.items[item]["wait"] == 0 or serial in takers)
                elif call[0] == 12 and answer[0] == 1:
                    taken += 1
                    row = last(*(set_up.calls + calls[:place] + [wire()]))
                    cue = row[1 + 4 * call[1]:5 + 4 * call[1]]
                    self.assertEqual(cue[0], serial)
                    self.assertEqual([sent[(cue[0], cue[1])], cue[2]], [answer[1], answer[1]])
                    self.assertLess(item, 8)
                    self.assertLess(ticks, set_up.items[item]["wait"])
                    self.assertLessEqual(cue[3], set_up.delay)
                    self.assertNotIn(serial, takers)
                    takers.append(serial)
        self.assertGreater(taken, 200)

    def drawn_plan(self, chance, set_up):
        """A plan that runs, put together by chance."""
        order = []
        for turn in range(15):
            longer = order + [chance.choice(sorted(set_up.items))]
            if last(*(set_up.calls + [runs(longer)]))[0] == 1:
                order = longer
        return order

    def perform(self, chance, set_up, order):
        """Each item is begun in its turn, whatever comes between; gives back how often one was rescued or not."""
        model = Model(set_up)
        calls = [start(chosen(chance, [conditions_of(belief) for belief in set_up.beliefs]))]
        model.answer(calls[0])
        ways = []
        for number in order:
            calls.append(begin(number))
            self.assertGreaterEqual(last(*(set_up.calls + calls))[0], 0, set_up.calls + calls)
            model.answer(calls[-1])
            for turn in range(chance.randint(0, 8)):
                if model.doing is not None:
                    calls.append(chance.choice([drawn_in_item(chance, model), glance(chance.randrange(4))]))
                    model.answer(calls[-1])
            if model.doing is not None:
                if model.lacks_cue():
                    calls.append(tick(20))
                    model.answer(calls[-1])
                calls.append(finish(chosen(chance, model.ends())))
                model.answer(calls[-1])
            ways.append(model.performed[-1]["rescued"])
        self.assertLessEqual(len(set_up.calls + calls), 199)
        done = behind(set_up.calls + calls, log())[0]
        self.assertEqual(done[1::3], order)
        self.assertEqual(done[3::3], ways)
        return ways

    def test_a_plan_that_runs_can_be_begun_item_by_item(self):
        chance = random.Random(55)
        ways = []
        for turn in range(60):
            set_up = SetUp(chance)
            order = self.drawn_plan(chance, set_up)
            for history in range(5):
                ways += self.perform(chance, set_up, order)
        self.assertGreater(min(ways.count(0), ways.count(1)), 300)

    def test_a_plan_that_is_found_can_be_begun_item_by_item(self):
        chance = random.Random(56)
        performed = 0
        while performed < 40:
            set_up = SetUp(chance)
            found = last(*(set_up.calls + [plan(200)]))
            if found[0] != 1:
                continue
            performed += 1
            order = found[3:]
            self.assertEqual(last(*(set_up.calls + [runs(order)]))[:3], [1, found[1], 1])
            for history in range(3):
                self.perform(chance, set_up, order)


class TheSameAgain(unittest.TestCase):

    def test_the_list_is_the_same_behind_it_and_a_second_time_gives_the_same(self):
        chance = random.Random(57)
        for turn in range(40):
            set_up, calls, expected = drawn_line(chance, 200)
            line = joined(set_up.calls + calls)
            before = list(line)
            first = answers(line)
            self.assertEqual(line, before)
            self.assertEqual(answers(line), first)
            self.assertEqual(line, before)

    def test_asking_changes_nothing(self):
        chance = random.Random(58)
        for turn in range(100):
            set_up, calls, expected = drawn_line(chance, 40)
            asked = []
            for call in calls:
                asked += [call, state(), log(), wire(), told()]
            found = ask(*(set_up.calls + asked))[len(set_up.calls):]
            self.assertEqual(found[::5], expected)


if __name__ == "__main__":
    unittest.main()

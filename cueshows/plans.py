"""Plans: when they run, when they're whole, and the search for one."""

from cueshows.beliefs import believed_behind, is_sure
from cueshows.house import LAST_ITEM, is_trick, item_at

RUNS = 0
NO_SUCH_ITEM = 1
TRICK_WAS_THERE = 2
ITEM_NOT_SURE = 3
LIMIT_PASSED = 4

NONE_FOUND = 0
FOUND = 1
STEPS_USED_UP = 2


class Plan:
    """A plan that runs: its items in order, and what is so behind them."""

    def __init__(self, order, minutes, done, beliefs):
        self.order = order
        self.minutes = minutes
        self.done = done
        self.beliefs = beliefs


def empty_plan(house):
    return Plan([], 0, [], list(house.beliefs))


def is_whole(house, plan):
    return len(plan.done) == len(house.tricks)


def reason_against(house, plan, number):
    """Why the plan doesn't run with this item behind it, RUNS if it does."""
    item = item_at(house, number)
    if item is None:
        return NO_SUCH_ITEM
    if number in plan.done:
        return TRICK_WAS_THERE
    if not is_sure(item, plan.beliefs):
        return ITEM_NOT_SURE
    if plan.minutes + item.minutes > house.limit:
        return LIMIT_PASSED
    return RUNS


def longer_plan(house, plan, number):
    item = item_at(house, number)
    # In ascending order, so that the same tricks look the same whatever order they were done in.
    done = sorted(plan.done + [number]) if is_trick(number) else plan.done
    beliefs = believed_behind(item, plan.beliefs)
    return Plan(plan.order + [number], plan.minutes + item.minutes, done, beliefs)


def longer_plans(house, plan):
    numbers = [number for number in range(LAST_ITEM + 1) if reason_against(house, plan, number) == RUNS]
    return [longer_plan(house, plan, number) for number in numbers]


def order_of(plan):
    return plan.order


def find_plan(house, steps):
    """The outcome of the search, and the plan, None if it isn't found."""
    waiting = [[] for minute in range(house.limit + 1)]
    waiting[0].append(empty_plan(house))
    gone_on_with = {}
    for minute in range(house.limit + 1):
        # Each item takes a minute at least, so no more plans of this minute come while these are taken.
        taken = sorted(waiting[minute], key=order_of)
        for plan in taken:
            standing = (tuple(plan.done), tuple(plan.beliefs))
            if standing in gone_on_with:
                continue
            if is_whole(house, plan):
                return (FOUND, plan)
            # Each step goes on with one standing that is new, so their count is that of the steps.
            if len(gone_on_with) == steps:
                return (STEPS_USED_UP, None)
            gone_on_with[standing] = True
            for longer in longer_plans(house, plan):
                waiting[longer.minutes].append(longer)
    return (NONE_FOUND, None)

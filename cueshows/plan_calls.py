"""The calls 5 and 6: runs, plan."""

from cueshows.conditions import all_within, within
from cueshows.house import LAST_ITEM
from cueshows.plans import FOUND, RUNS, empty_plan, find_plan, is_whole, longer_plan, reason_against
from cueshows.refusals import OUT_OF_RANGE, WRONG_LIST

MOST_IN_LIST = 30
MOST_STEPS = 200


def answer_runs(line, order):
    house = line.house
    if len(order) > MOST_IN_LIST or not all_within(order, 0, LAST_ITEM):
        return [WRONG_LIST]
    plan = empty_plan(house)
    for place, number in enumerate(order):
        reason = reason_against(house, plan, number)
        if reason != RUNS:
            return [0, place, reason]
        plan = longer_plan(house, plan, number)
    return [1, plan.minutes, 1 if is_whole(house, plan) else 0] + plan.beliefs


def answer_plan(line, steps):
    if not within(steps, 0, MOST_STEPS):
        return [OUT_OF_RANGE]
    search = find_plan(line.house, steps)
    outcome = search[0]
    if outcome != FOUND:
        return [outcome]
    plan = search[1]
    return [FOUND, plan.minutes, len(plan.order)] + plan.order


def answer_plan_call(line, call, numbers, rows):
    if call == 5:
        return answer_runs(line, rows[0])
    return answer_plan(line, numbers[0])

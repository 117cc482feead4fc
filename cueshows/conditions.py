"""Ranges, conditions, and sets of conditions told as numbers."""

POWERS = (1, 2, 4, 8, 16, 32, 64)


def within(number, least, most):
    return least <= number <= most


def all_within(row, least, most):
    return all([within(number, least, most) for number in row])


def all_conditions(count):
    return POWERS[count] - 1


def holds(conditions, condition):
    return (conditions & POWERS[condition]) != 0


def are_sets(row, props, least):
    """One set for each prop; least is 0 where a set may be empty, else 1."""
    if len(row) != len(props):
        return False
    return all([within(number, least, all_conditions(count)) for number, count in zip(row, props)])


def are_conditions(row, props):
    if len(row) != len(props):
        return False
    return all([within(number, 0, count - 1) for number, count in zip(row, props)])

"""When an item is sure, and what's believed behind it."""


def is_sure(item, beliefs):
    return all([(belief & need) == belief for belief, need in zip(beliefs, item.need)])


def left_by(leave, beliefs):
    """The beliefs behind one way of an item; a leaving set of 0 stands for: as it was."""
    return [belief if left == 0 else left for left, belief in zip(leave, beliefs)]


def believed_behind(item, beliefs):
    usual = left_by(item.leave, beliefs)
    if item.wait == 0:
        return usual
    rescued = left_by(item.rescue, beliefs)
    return [one | other for one, other in zip(usual, rescued)]

"""When the item being done wants a cue, when it's rescued, and the way it takes."""

from cueshows.house import item_at
from cueshows.line import NO_ITEM, NO_VALUE


def wants_cue(house, show):
    """Whether the item being done is a trick that wants a cue; a reset has the wait 0 as well."""
    return show.doing != NO_ITEM and item_at(house, show.doing).wait > 0


def is_rescued(house, show):
    # No cue is taken behind the rescue, so once this holds it holds until the item is finished.
    return wants_cue(house, show) and show.taken == NO_VALUE and show.ticks >= item_at(house, show.doing).wait


def waits_for_cue(house, show):
    return wants_cue(house, show) and show.taken == NO_VALUE and not is_rescued(house, show)


def way_taken(house, show):
    """The leaving sets of the way that the item being done takes."""
    item = item_at(house, show.doing)
    return item.rescue if is_rescued(house, show) else item.leave

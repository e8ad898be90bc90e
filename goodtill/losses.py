"""Weighty deeds that later lives of their nodes do not keep, and the pasts that are torn by this.

Losses are pairs: the place of a start in a record, and as a past the weighty deeds that this start does not keep.
"""

from goodtill.forms import kind_of
from goodtill.record import has_bit


def losses_by(record, event):
    """The losses by an event that a record has: one pair, if it is a start that does not keep all, otherwise none."""
    if kind_of(event) != "start":
        return []
    start = record.places[event[0]]
    lost = 0
    for place in record.weighty.get(event[0][0], []):
        if record.events[place][0][1] < event[0][1] and not has_bit(record.pasts[start], place):
            lost = lost | (1 << place)
    return [(start, lost)] if lost else []


def losses_of(record):
    """All losses of a record."""
    found = []
    for event in record.events:
        found.extend(losses_by(record, event))
    return found


def all_lost(losses):
    """All weighty deeds that some start does not keep, as a past."""
    lost = 0
    for _, deeds in losses:
        lost = lost | deeds
    return lost


def is_torn(past, losses):
    """Whether a past has a start together with a weighty deed that this start does not keep."""
    return any([has_bit(past, start) and past & deeds != 0 for start, deeds in losses])

"""Checks of events, entries and rosters."""

from goodtill.errors import BadEvent, BadRoster
from goodtill.forms import event_fault, is_entry
from goodtill.rates import is_whole

ROSTER_PAIRS = 32
SLOWEST = 1000


def check_event(value):
    """The value, if it is an event; otherwise raises BadEvent."""
    fault = event_fault(value)
    if fault is not None:
        raise BadEvent(fault)
    return value


def check_entry(value):
    """The value, if it is an entry; otherwise raises BadEvent."""
    if not is_entry(value):
        raise BadEvent(2)
    return value


def is_bounds(value):
    """Whether a value bounds the ticks of a clock."""
    if not isinstance(value, tuple) or len(value) != 2:
        return False
    a, b = value
    return is_whole(a) and is_whole(b) and 1 <= a <= b <= SLOWEST


def check_roster(value):
    """The value, if it is a roster; otherwise raises BadRoster."""
    if not isinstance(value, tuple):
        raise BadRoster(-1)
    for at, pair in enumerate(value):
        if at == ROSTER_PAIRS or not is_bounds(pair):
            raise BadRoster(at)
    return value

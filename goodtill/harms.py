"""On which puts a telling leans, and what harm an event of a run is."""

from goodtill.forms import kind_of
from goodtill.losses import all_lost, is_torn
from goodtill.record import has_bit
from goodtill.walks import contents_of, walk_by


def leaned_on(events, name, most):
    """The ids of the puts on which a telling by some events leans, as a dict of True."""
    contents = contents_of(events)
    way = walk_by(contents, name, most)[1]
    return {contents[place][0]: True for place in way if place in contents}


def is_stale_telling(record, lost, place):
    """Whether a telling's answer is not what is so at its place."""
    _, name, most, answer = record.events[place][2]
    ahead = (1 << place) - 1
    return walk_by(contents_of(record.events_of(ahead & ~lost)), name, most)[0] != answer


def leans_on_lost(record, lost, place):
    """Whether a telling leans on a lost put."""
    _, name, most, _ = record.events[place][2]
    seen = record.events_of(record.pasts[place])
    return any([has_bit(lost, record.places[put]) for put in leaned_on(seen, name, most)])


def harm_at(record, losses, place):
    """What harm the event at a place of a run is, None if it is none."""
    kind = kind_of(record.events[place])
    if kind == "hear" and is_torn(record.pasts[place], losses):
        return "torn"
    if kind == "tell":
        lost = all_lost(losses)
        if is_stale_telling(record, lost, place):
            return "stale"
        if leans_on_lost(record, lost, place):
            return "lean"
    return None

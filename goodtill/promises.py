"""Promises: what they cover, on which places they are, who holds them, whether they stand or are past."""

from goodtill.errors import Refused
from goodtill.holding import gives_at, has_give, has_left, holders
from goodtill.pages import page_record
from goodtill.rates import NOUGHT, is_below, minus, over, plus, times
from goodtill.record import record_of
from goodtill.sight import sight_of


def give_record(events, give):
    """The record of a row in which a giving is there."""
    record = record_of(events)
    if not has_give(record, give, record.everything()):
        raise Refused(give)
    return record


def span_of(events, give):
    """What a promise covers: a label, or a gap between labels."""
    return give_record(events, give).span(give)


def gives_on(events, term, label):
    """The ids of the promises on a place, ascending."""
    record = page_record(events, term)
    return tuple(gives_at(record, term, label))


def holders_of(events, give):
    """The nodes that hold a promise, sworn off or not, ascending."""
    record = give_record(events, give)
    return tuple(holders(record, give, record.everything()))


def has_sworn(events, give, node):
    """Whether a node has sworn a promise off, or has handed its page on as the giver."""
    record = give_record(events, give)
    return has_left(record, give, node, record.everything())


def still_to_read(sight, give):
    """The newest event of a giver's line, and by how much the promise's end is above its reading."""
    newest = sight.newest_by(give[0])
    return newest[0], minus(sight.record.event(give)[2][3], newest[1])


def own_ticks(sight, give):
    """How many ticks of its own a node can surely count to the end of a promise, None if none at all."""
    newest, ticks = still_to_read(sight, give)
    if give[0] == sight.node:
        return ticks
    far = sight.ways.way_on(newest)
    if far is None:
        return None
    return over(plus(far, times(sight.bounds(give[0])[0], ticks)), sight.bounds(sight.node)[1])


def is_standing(sight, give):
    """Whether a promise surely is not at its end yet."""
    # No way leads on to an elder event by more than 0: so nothing is left where the giver's clock read the end.
    ticks = own_ticks(sight, give)
    return ticks is not None and is_below(NOUGHT, ticks)


def time_left(sight, give):
    """How long it is at the most to the end of a promise, nought or below if it is past."""
    newest, ticks = still_to_read(sight, give)
    return minus(times(sight.bounds(give[0])[1], ticks), sight.ways.way_in(newest))


def is_over(sight, give):
    """Whether a promise surely is at its end, or was."""
    return not is_below(NOUGHT, time_left(sight, give))


def does_stand(roster, events, node, give):
    """Whether by all that a node has seen a promise surely is not at its end yet."""
    sight = sight_of(roster, events, node)
    sight.need_give(give)
    return is_standing(sight, give)


def is_past(roster, events, node, give):
    """Whether by all that a node has seen a promise surely is at its end, or was."""
    sight = sight_of(roster, events, node)
    sight.need_give(give)
    return is_over(sight, give)


def ticks_left(roster, events, node, give):
    """How many ticks of its own a node can surely count to the end of a promise, None if none at all."""
    sight = sight_of(roster, events, node)
    sight.need_give(give)
    return own_ticks(sight, give)

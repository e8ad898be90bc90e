"""Promises: on which places they are, and by a past who holds them and who has sworn them off."""

from goodtill.forms import kind_of
from goodtill.labels import is_inside
from goodtill.record import has_bit


def has_give(record, give, past):
    """Whether an id is that of a giving in a past."""
    return record.has_within(give, past) and kind_of(record.event(give)) == "give"


def covers(span, label):
    """Whether what a promise covers has a label."""
    if span[0] == "label":
        return span[1] == label
    return is_inside(span[1], label, span[2])


def gives_of(record, term):
    """The ids of the givings of a page, ascending."""
    return sorted([record.events[place][0] for place in record.gives.get(term, [])])


def is_put_behind(record, give, label):
    """Whether a put at a label of a promise's page has the giving in its past."""
    puts = record.puts.get((record.event(give)[2][1], label), [])
    return any([has_bit(record.pasts[put], record.places[give]) for put in puts])


def gives_at(record, term, label):
    """The ids of the promises on a place, ascending."""
    gives = [give for give in gives_of(record, term) if covers(record.span(give), label)]
    return [give for give in gives if not is_put_behind(record, give, label)]


def holders(record, give, past):
    """The nodes that hold a promise, which is there, by a past, sworn off or not, ascending."""
    event = record.event(give)
    nodes = {event[0][0]: True, event[2][4]: True}
    for passing in record.those_within(record.passes.get(give, []), past):
        nodes[passing[2][2]] = True
    return sorted(nodes)


def has_sworn_itself(record, give, node, past):
    """Whether a past has a swearing of a promise by a node."""
    swears = record.those_within(record.swears.get(give, []), past)
    return any([event[0][0] == node for event in swears])


def has_left(record, give, node, past):
    """Whether a node has sworn a promise off by a past, or has handed its page on as the giver."""
    if has_sworn_itself(record, give, node, past):
        return True
    if give[0] != node:
        return False
    place = record.places[give]
    hands = record.those_within(record.hands.get(record.event(give)[2][1], []), past)
    own = [event for event in hands if event[0][0] == node]
    return any([has_bit(record.pasts[record.places[event[0]]], place) for event in own])

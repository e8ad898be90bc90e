"""Asks by what a node has seen: which are open, which places their ways have, whose turn it is to promise."""

from goodtill.forms import kind_of
from goodtill.record import has_bit
from goodtill.tree import walk_view


def is_answered(sight, ask):
    """Whether behind an ask the asker has told its name."""
    place, (_, name, most) = sight.record.places[ask[0]], ask[2]
    for event, past in zip(sight.record.events, sight.record.pasts):
        if event[0][0] == ask[0][0] and event[2][:3] == ("tell", name, most) and has_bit(past, place):
            return True
    return False


def open_asks(sight):
    """The asks that are open, ascending by their ids."""
    asks = [event for event in sight.record.events if kind_of(event) == "ask" and not is_answered(sight, event)]
    return sorted(asks, key=lambda row: row[0])


def way_of(sight, ask):
    """The places at which the walk of an ask looks."""
    _, name, most = ask[2]
    return walk_view(sight.record.events, name, most)[1]


def house_of(sight, term):
    """The node that keeps a page."""
    return sight.record.keeper_row(term, sight.whole)[1]


def has_promised(sight, house, place, ask):
    """Whether behind an ask a house has given the asker a promise on a place."""
    record = sight.record
    for at in record.gives.get(place[0], []):
        (giver, _, _), _, (_, _, label, _, to) = record.events[at]
        behind = has_bit(record.pasts[at], record.places[ask[0]])
        if behind and (giver, label, to) == (house, place[1], ask[0][0]):
            return True
    return False


def turn_of(sight, ask):
    """The house, neither the node nor the asker, that keeps the first place of the way not yet promised; or None."""
    for place in way_of(sight, ask):
        house = house_of(sight, place[0])
        if house not in (sight.node, ask[0][0]) and not has_promised(sight, house, place, ask):
            return house
    return None


def has_handed(sight, ask):
    """Whether the node has handed over a page of the way of an ask."""
    record = sight.record
    hands = [at for term, _ in way_of(sight, ask) for at in record.hands.get(term, [])]
    return any([record.events[at][0][0] == sight.node for at in hands])

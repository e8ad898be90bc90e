"""Promises called back: who must still swear, and what is seen when some swear at once."""

from goodtill.errors import Refused
from goodtill.holding import has_give, has_left, holders
from goodtill.houses import alive_on, need_house, others_bound, put_by, shut_by
from goodtill.record import record_of
from goodtill.sight import sight_of


def left_to_swear(roster, events, node, term, label):
    """For each shut place of the way its promises that are alive, with those who must still swear; () if none must."""
    sight = sight_of(roster, events, node)
    need_house(sight, term, label)
    if put_by(sight, term, label)[0] == "let":
        return ()
    rows = []
    for place in shut_by(sight, term, label):
        pairs = [(give, tuple(others_bound(sight, give))) for give in alive_on(sight, place)]
        rows.append((place, tuple(pairs)))
    return tuple(rows)


def fewest_swears(roster, events, node, term, label):
    """How many swearings let a change at the least."""
    rows = left_to_swear(roster, events, node, term, label)
    return min([sum([len(nodes) for _, nodes in pairs]) for _, pairs in rows], default=0)


def may_swear(record, node, give):
    """Whether a node holds a promise by its view and has not sworn it off."""
    if node not in record.lines:
        return False
    past = record.pasts[record.places[record.lines[node][-1]]]
    if not has_give(record, give, past):
        return False
    return node in holders(record, give, past) and not has_left(record, give, node, past)


def do_next(record, node, deed):
    """Puts a node's next event behind a record, at the reading of its newest one; returns its id."""
    (_, life, number), reading, _ = record.event(record.lines[node][-1])
    event_id = (node, life, number + 1)
    record.take((event_id, reading, deed))
    return event_id


def sworn_view(events, rows, node):
    """A row with swearings by some holders behind it, who write to a node, and its hearings."""
    record = record_of(events)
    if node not in record.lines:
        raise Refused(node)
    for at, row in enumerate(rows):
        if row in rows[:at] or not may_swear(record, row[0], row[1]):
            raise Refused(row)
    sends = []
    for holder, give in rows:
        do_next(record, holder, ("swear", give))
        if holder != node:
            sends.append(do_next(record, holder, ("send", node)))
    for send in sends:
        do_next(record, node, ("hear", send))
    return tuple(record.events)

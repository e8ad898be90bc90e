"""What is asked of a run that is to show what a node may not do, beyond the node's view and the deed that is shown."""

from goodtill.finders import may_tell
from goodtill.forms import is_weighty, kind_of
from goodtill.houses import may_put
from goodtill.pasts import by_id, newest_in
from goodtill.views import is_later_start


def past_events(record, event):
    """The events of an event's past, but itself, in the order of the record."""
    return tuple(record.events_of(record.past_without(event)))


def next_deed(record, view, node, deed):
    """The event of a deed that a node does next behind a view, at its newest event's reading; None if there is none."""
    known = by_id(view)
    reading = known[newest_in(view, node)][1]
    for event in record.events:
        if event[0][0] == node and event[1:] == (reading, deed) and by_id(past_events(record, event)) == known:
            return event
    return None


def has_right(roster, record, event):
    """Whether a put is let, or a telling told, by its own past; whether it is another deed."""
    kind = kind_of(event)
    if kind not in ("put", "tell"):
        return True
    (node, _, _), reading, deed = event
    row = past_events(record, event) + ((event[0], reading, ("tick",)),)
    if kind == "put":
        return may_put(roster, row, node, deed[1], deed[2])[0] == "let"
    return may_tell(roster, row, node, deed[1], deed[2]) == ("told", deed[3])


def last_lives(view):
    """The greatest life of each node that has an event in a view."""
    lives = {}
    for (node, life, _), _, _ in view:
        lives[node] = max(life, lives.get(node, 0))
    return lives


def may_stand_outside(event, lives):
    """Whether an event beyond a view begins no life above 0, and is no weighty deed or telling of an ended life."""
    if is_later_start(event):
        return False
    ended = event[0][1] < lives.get(event[0][0], 0)
    return not ended or not (is_weighty(event) or kind_of(event) == "tell")


def keeps_to_rule(roster, record, view, shown):
    """Whether all events of a record beyond a view and the shown one may stand there and have their rights."""
    known, lives = by_id(view), last_lives(view)
    outside = [event for event in record.events if event[0] not in known and event[0] != shown[0]]
    if not all([may_stand_outside(event, lives) for event in outside]):
        return False
    return all([has_right(roster, record, event) for event in outside])

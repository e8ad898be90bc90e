"""Views: rows of events in which each one may stand, the pasts of events and the lines of nodes."""

from goodtill.coming import may_come
from goodtill.errors import BadView, Refused
from goodtill.forms import kind_of
from goodtill.pasts import by_id, events_in, newest_in, past_ids, past_in
from goodtill.record import Record


def check_view(value):
    """The value, if it is a view; otherwise raises BadView."""
    if not isinstance(value, tuple):
        raise BadView(-1)
    record = Record()
    for at, event in enumerate(value):
        if not may_come(record, event):
            raise BadView(at)
        record.take(event)
    return value


def is_view(value):
    """Whether any value is a view."""
    try:
        check_view(value)
    except BadView:
        return False
    return True


def past_of(events, event_id):
    """The events of an event's past, in the order of the row."""
    return past_in(events, event_id)


def is_behind(events, event_id, other):
    """Whether an event has another one in its past."""
    return other in past_ids(by_id(events), [event_id])


def line_of(events, node):
    """The events of a node by life, then by number."""
    return tuple(sorted([event for event in events if event[0][0] == node], key=lambda row: row[0]))


def newest_of(events, node):
    """The id of the last event on a node's line, None if it has none."""
    return newest_in(events, node)


def view_of(events, node):
    """The past of a node's newest event, in the order of the row."""
    newest = newest_in(events, node)
    if newest is None:
        return ()
    return past_in(events, newest)


def is_later_start(event):
    """Whether an event begins a life above 0."""
    return kind_of(event) == "start" and event[0][1] > 0


def life_gaps(events):
    """For each start of a life above 0 the id next ahead of it on its line, and its own."""
    gaps = []
    ahead = None
    for event in sorted(events, key=lambda row: row[0]):
        if is_later_start(event):
            gaps.append((ahead if ahead is not None and ahead[0] == event[0][0] else None, event[0]))
        ahead = event[0]
    return tuple(gaps)


def last_left(line):
    """The id of the last send or start of a life above 0 on a line, None if there is none."""
    left = None
    for event in line:
        if kind_of(event) == "send" or is_later_start(event):
            left = event[0]
    return left


def common_view(events, node):
    """What others can have seen of a node's view."""
    view = view_of(events, node)
    if view == ():
        raise Refused(node)
    seeds = [event[0] for event in view if event[0][0] != node]
    left = last_left(line_of(view, node))
    if left is not None:
        seeds.append(left)
    return events_in(view, past_ids(by_id(view), seeds))

"""The pasts of events, found by their steps back."""

from goodtill.forms import steps_back


def by_id(events):
    """The events of a row under their ids."""
    return {event[0]: event for event in events}


def past_ids(found, seeds):
    """All ids in the pasts of some events, as a dict of True; found has the events under their ids."""
    seen = {}
    todo = list(seeds)
    while todo:
        step = todo.pop()
        if step not in seen:
            seen[step] = True
            todo.extend(steps_back(found[step]))
    return seen


def events_in(events, seen):
    """The events of a row whose ids are in a dict, in the order of the row."""
    return tuple([event for event in events if event[0] in seen])


def past_in(events, event_id):
    """The past of an event, in the order of the row."""
    return events_in(events, past_ids(by_id(events), [event_id]))


def newest_in(events, node):
    """The id of the last event on a node's line, None if it has none."""
    newest = None
    for event in events:
        event_id = event[0]
        if event_id[0] == node and (newest is None or event_id > newest):
            newest = event_id
    return newest

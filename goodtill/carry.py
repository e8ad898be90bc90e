"""What a letter must carry, and how a view and a letter are joined."""

from goodtill.errors import Refused
from goodtill.forms import kind_of, steps_back
from goodtill.pasts import by_id, newest_in, past_ids, past_in


def letter_events(events, send_id):
    """The events of a letter's past that the node to which it goes has not told its writer of."""
    found = by_id(events)
    if send_id not in found or kind_of(found[send_id]) != "send":
        raise Refused(send_id)
    past = past_in(events, send_id)
    last = newest_in(past, found[send_id][2][1])
    known = {} if last is None else past_ids(found, [last])
    return tuple([event for event in past if event[0] not in known])


def joined_view(view, letter):
    """A view with the events of a letter behind it that it has not yet."""
    row = list(view)
    ids = {event[0]: True for event in view}
    for event in letter:
        if event[0] not in ids:
            if not all([step in ids for step in steps_back(event)]):
                raise Refused(event[0])
            row.append(event)
            ids[event[0]] = True
    return tuple(row)

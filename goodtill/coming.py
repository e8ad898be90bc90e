"""Which event may come behind the events of a record: the eleven conditions of a view."""

from goodtill.forms import is_event, is_pointer, is_weighty, kind_of, steps_back
from goodtill.holding import has_give, has_left, holders
from goodtill.record import has_bit

DEEPEST = 5


def has_steps(record, event):
    """Condition 2: what the event rests on is there, and a start is rightly formed."""
    for step in steps_back(event):
        if step not in record.places:
            return False
    event_id, _, deed = event
    if deed[0] != "start":
        return True
    kept = deed[1]
    return event_id[2] == 0 and (kept is None or (kept[0] == event_id[0] and kept[1] < event_id[1]))


def are_agreed(elder, later):
    """Whether of two starts of one node the later life's keeps what the elder one's asks for."""
    kept = later[2][1]
    return kept == elder[2][1] or (kept is not None and kept[1] >= elder[0][1])


def agrees_with_starts(record, event):
    """Condition 3: what a node has once read back it keeps."""
    if kind_of(event) != "start":
        return True
    for place in record.starts.get(event[0][0], []):
        other = record.events[place]
        elder, later = (event, other) if event[0] < other[0] else (other, event)
        if not are_agreed(elder, later):
            return False
    return True


def reads_between(record, event):
    """Condition 4: the reading lies between those of its neighbours on the line."""
    ahead, behind = record.neighbours(event[0])
    n, d = event[1]
    if ahead is not None and n * ahead[1][1] < ahead[1][0] * d:
        return False
    return behind is None or behind[1][0] * d >= n * behind[1][1]


def goes_well(record, event):
    """Conditions 5 and 6: a letter is heard where it went, and nothing goes to its own node."""
    node, deed = event[0][0], event[2]
    if deed[0] == "hear":
        return record.event(deed[1])[2] == ("send", node)
    if deed[0] in ("send", "give", "pass", "hand"):
        return deed[-1] != node
    return True


def keeps_its_page(record, event, past):
    """Condition 7: a put, a giving or a hand row is of a page that its node keeps."""
    deed = event[2]
    if deed[0] not in ("put", "give", "hand"):
        return True
    return record.has_page(deed[1], past) and record.keeper_row(deed[1], past)[1] == event[0][0]


def would_change(record, term, label, entry, past):
    """Whether an entry, put at a label of a page, which is there, is no page too deep and not what stands there."""
    if is_pointer(entry):
        return record.depths[term] < DEEPEST
    return record.content(term, label, past)[1] != entry


def changes_something(record, event, past):
    """Condition 8: a page is not put too deep, and what stands is not put again."""
    deed = event[2]
    return deed[0] != "put" or would_change(record, deed[1], deed[2], deed[3], past)


def holds_its_promise(record, event, past):
    """Condition 9: who passes a promise or swears it off holds it still."""
    node, deed = event[0][0], event[2]
    if deed[0] not in ("pass", "swear"):
        return True
    if not has_give(record, deed[1], past):
        return False
    return node in holders(record, deed[1], past) and not has_left(record, deed[1], node, past)


def comes_by_nine(record, event):
    """Whether any value may come behind a record by the conditions 1 to 9."""
    if not is_event(event) or event[0] in record.places or not has_steps(record, event):
        return False
    if not (agrees_with_starts(record, event) and reads_between(record, event) and goes_well(record, event)):
        return False
    past = record.past_without(event)
    if not keeps_its_page(record, event, past):
        return False
    return changes_something(record, event, past) and holds_its_promise(record, event, past)


def loses_nothing(record, event):
    """Condition 10: no start leaves out a weighty deed of an elder life of its node."""
    node, life, _ = event[0]
    if is_weighty(event):
        starts = [record.events[place] for place in record.starts.get(node, [])]
        return all([start[0][1] <= life for start in starts])
    if kind_of(event) != "start":
        return True
    past = record.past_without(event)
    for place in record.weighty.get(node, []):
        if record.events[place][0][1] < life and not has_bit(past, place):
            return False
    return True


def fits_its_line(record, event):
    """Condition 11: the event rests on nothing that stands behind its own node's next event."""
    event_id = event[0]
    if record.neighbours(event_id)[1] is None:
        return True
    seen = {}
    todo = list(steps_back(event))
    while todo:
        step = todo.pop()
        if step in seen:
            continue
        if step[0] == event_id[0] and step > event_id:
            return False
        seen[step] = True
        todo.extend(steps_back(record.event(step)))
        ahead = record.neighbours(step)[0]
        if ahead is not None:
            todo.append(ahead[0])
    return True


def may_come(record, event):
    """Whether any value may come behind a record that is a view."""
    return comes_by_nine(record, event) and loses_nothing(record, event) and fits_its_line(record, event)

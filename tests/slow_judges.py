"""A slow second reading of points 62 and 65, word by word: which of their conditions a run does not meet."""

from tests.slow_rights import Eye, Row
from tests.slow_runs import is_at_fault, lost_ids, truth


def is_run(roster, run):
    return all(not is_at_fault(roster, run[:at], *run[at]) for at in range(len(run)))


def view_of(events, node):
    return Row(events).view(node).events


def seen(row, event):
    """The past of an event but itself."""
    return {other[0]: other for other in row.events if other[0] in row.pasts[event[0]] and other[0] != event[0]}


def has_right(roster, row, event):
    deed = event[2]
    if deed[0] not in ("put", "tell"):
        return True
    past = tuple(seen(row, event).values()) + ((event[0], event[1], ("tick",)),)
    eye = Eye(roster, past, event[0][0])
    if deed[0] == "put":
        return eye.may_put(deed[1], deed[2])[0] == "let"
    return eye.may_tell(deed[1], deed[2]) == ("told", deed[3])


def outside_faults(roster, row, view, shown):
    faults = set()
    known = {event[0] for event in view}
    for event in row.events:
        if event[0] in known or event[0] == shown[0]:
            continue
        if event[2][0] == "start" and event[0][1] > 0:
            faults.add(3)
        ended = any(one[2][0] == "start" and one[0][0] == event[0][0] and one[0][1] > event[0][1] for one in view)
        if ended and event[2][0] not in ("start", "tick", "send", "hear", "ask"):
            faults.add(3)
        if not has_right(roster, row, event):
            faults.add(4)
    return faults


def is_stale(run):
    event = run[-1][0]
    return event[2][0] == "tell" and event[2][3] != truth(run, len(run) - 1, event[2][1], event[2][2])


def shown_event(row, view, node, deed):
    newest = Row(view).line(node)[-1]
    table = {event[0]: event for event in view}
    for event in row.events:
        if event[0][0] == node and event[1] == newest[1] and event[2] == deed and seen(row, event) == table:
            return event
    return None


def slip_faults(roster, events, node, name, most, answer, run):
    """The numbers of the conditions of point 62 that are not met; 0 stands for a node without an event."""
    view = view_of(events, node)
    if not view:
        return {0}
    if not run or not is_run(roster, run):
        return {1}
    row = Row(tuple(event for event, _ in run))
    shown = shown_event(row, view, node, ("tell", name, most, answer))
    faults = set()
    if shown is None or shown != run[-1][0]:
        faults.add(2)
        shown = run[-1][0]
    faults |= outside_faults(roster, row, view, shown)
    if not is_stale(run):
        faults.add(5)
    return faults


def haste_faults(roster, events, node, term, label, entry, run):
    """The numbers of the conditions of point 65 that are not met, counted as those of point 62 are; 6 is the fourth."""
    view = view_of(events, node)
    if not view:
        return {0}
    if not run or not is_run(roster, run):
        return {1}
    row = Row(tuple(event for event, _ in run))
    shown = shown_event(row, view, node, ("put", term, label, entry))
    if shown is None:
        return {2}
    faults = outside_faults(roster, row, view, shown)
    teller = run[-1][0]
    if teller[2][0] != "tell" or teller[0][0] == node:
        faults.add(6)
    else:
        past = seen(row, teller)
        way = Row(tuple(past.values())).walk(teller[2][1], teller[2][2])[1]
        if shown[0] in past or (term, label) not in way:
            faults.add(6)
        for event in row.events:
            if event[2][0] == "put" and event[2][1:3] in way and event != shown:
                if event[0] not in past and event[0] not in lost_ids(run):
                    faults.add(6)
    if not is_stale(run):
        faults.add(5)
    return faults

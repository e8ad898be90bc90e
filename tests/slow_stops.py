"""A slow second reading of points 79 to 82, word by word, for comparison."""

from goodtill.errors import Refused
from goodtill.forms import is_deed
from tests.slow_judges import is_run
from tests.slow_rights import Row
from tests.slow_runs import is_torn, lost_ids, truth
from tests.slow_views import WEIGHTY


def leans(row, ids, name, most):
    """The ids of the puts on which a telling leans, by the events of these ids."""
    part = row.part(ids)
    found = set()
    for term, label in part.walk(name, most)[1]:
        put = part.newest([event for event in part.events if event[2][:3] == ("put", term, label)])
        if put is not None:
            found.add(put[0])
        elif term != () and label in dict(part.table[term][2][3][2]):
            found.add(term)
    return found


def needed_flush(events, node, flushed, deed):
    view = Row(events).view(node)
    if not view.events:
        raise Refused(node)
    newest = view.line(node)[-1]
    life = newest[0][1]
    kept = view.table[(node, life, 0)][2][1]
    own = [event for event in view.line(node) if event[0][1] == life]
    if flushed != kept and flushed not in [event[0] for event in own]:
        raise Refused(flushed)
    if not is_deed(deed) or deed[0] not in ("send", "tell") or deed == ("send", node):
        raise Refused(deed)
    heavy = [event for event in own if event[2][0] in WEIGHTY]
    if flushed in [event[0] for event in own]:
        heavy = [event for event in heavy if event[0][2] > flushed[2]]
    if deed[0] == "tell":
        put = leans(view, set(view.table), deed[1], deed[2])
        heavy = [event for event in heavy if event[2][0] == "put" and event[0] in put]
    return heavy[-1][0] if heavy else None


def harm_of(run):
    lost = lost_ids(run)
    row = Row(tuple(event for event, _ in run))
    for place, (event, _) in enumerate(run):
        past = row.pasts[event[0]]
        if event[2][0] == "hear" and is_torn(list(row.events), past):
            return ("torn", place)
        if event[2][0] == "tell":
            if truth(run, place, event[2][1], event[2][2]) != event[2][3]:
                return ("stale", place)
            if leans(row, past, event[2][1], event[2][2]) & lost:
                return ("lean", place)
    return None


def stop_faults(roster, events, node, flushed, deed, run):
    """The numbers of the conditions of point 81 that are not met."""
    try:
        needed = needed_flush(events, node, flushed, deed)
    except Refused:
        return {1}
    if needed is None or not is_run(roster, run):
        return {1}
    view = Row(events).view(node)
    (_, life, number), reading, _ = view.line(node)[-1]
    done = ((node, life, number + 1), reading, deed)
    row = Row(tuple(event for event, _ in run))
    faults = set()
    if any(event not in row.events for event in view.events + (done,)):
        return {2}
    if any(event[0][:2] == (node, life) and event[0][2] > number + 1 for event in row.events):
        faults.add(2)
    others = [event for event in row.events if event not in view.events and event != done]
    starts = [event for event in others if event[2][0] == "start" and event[0][1] > 0]
    good = []
    for start in starts:
        kept = start[2][1]
        within = kept is not None and kept[:2] == (node, life) and kept[2] < needed[2]
        if within and flushed is not None and flushed[:2] == (node, life):
            within = kept[2] > flushed[2]
        good.append(start[0] == (node, life + 1, 0) and (kept == flushed or within))
    if good != [True]:
        faults.add(3)
    if any(event[2][0] not in ("start", "tick", "send", "hear", "ask") for event in others):
        faults.add(4)
    if deed[0] == "send" and not faults & {3}:
        if not any(event[2][0] == "hear" and {done[0], starts[0][0]} <= row.pasts[event[0]] for event in row.events):
            faults.add(5)
    return faults

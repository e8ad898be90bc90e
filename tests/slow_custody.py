"""A slow second reading of point 70 and of a kept run, word by word, for comparison."""

from goodtill.errors import Refused
from tests.slow_rights import Row, is_page
from tests.slow_runs import full_past, is_torn, lost_ids


def seen(run, place, node):
    """What a node has seen ahead of a place, None if it has no event there."""
    own = [event for event, _ in run[:place] if event[0][0] == node]
    if not own:
        return None
    ids = full_past([event for event, _ in run], max(own, key=lambda one: one[0]))
    return tuple(event for event, _ in run if event[0] in ids)


def is_there(run, place, term):
    return term == () or any(is_page(event) and event[0] == term for event, _ in run[:place] if event[0] not in lost_ids(run))


def keepers(run, place, term):
    """The keepers of a page at a place, with what they have seen."""
    found = {}
    for node in range(32):
        row = seen(run, place, node)
        if row is not None and not is_torn(row, {event[0] for event in row}):
            view = Row(row)
            if view.is_there(term) and view.keeper_of(term)[1] == node:
                found[node] = {event[0] for event in row}
    return found


def unknown_to_keeper(run, place, term):
    if not is_there(run, place, term) or not keepers(run, place, term):
        raise Refused(term)
    lost = lost_ids(run)
    deeds = [event[0] for event, _ in run[:place] if event[2][:2] in (("put", term), ("give", term)) and event[0] not in lost]
    return tuple(sorted(one for one in deeds if not all(one in ids for ids in keepers(run, place, term).values())))


def standing_terms(run, place):
    lost = lost_ids(run)
    puts = [event for event, _ in run[:place] if event[2][0] == "put" and event[0] not in lost]

    def stands(term):
        if term == ():
            return True
        made = [event for event in puts if event[0] == term and is_page(event)]
        if not made:
            return False
        _, above, label, _ = made[0][2]
        return stands(above) and [event for event in puts if event[2][1:3] == (above, label)][-1][0] == term

    return tuple(sorted(term for term in [()] + [event[0] for event in puts] if stands(term)))


def is_kept(run):
    """Whether no event of another node has a lost deed in its past."""
    row, lost = [event for event, _ in run], lost_ids(run)
    return not any(one[0] != event[0][0] for event in row for one in lost & full_past(row, event))

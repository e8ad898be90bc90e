"""A slow second reading of points 83 and 84, word by word, for comparison."""

from tests.slow_custody import keepers
from tests.slow_rights import Row
from tests.slow_runs import lost_ids
from tests.slow_webs import number


def true_way(run, name, most):
    """The places of the walk through what all puts that are not lost have made of the tree."""
    lost = lost_ids(run)
    puts = [event for event, _ in run if event[2][0] == "put" and event[0] not in lost]
    names, way, term, left = 0, [], (), list(name)
    while True:
        label = left.pop(0)
        if (term, label) not in way:
            way.append((term, label))
        here = [event for event in puts if event[2][1:3] == (term, label)]
        made = [event for event in puts if event[0] == term]
        entry = here[-1][2][3] if here else dict(made[0][2][3][2]).get(label) if made else None
        if entry is None or entry[0] == "value" or (entry[0] == "page" and not left):
            return tuple(way)
        if entry[0] == "page":
            term = here[-1][0]
            continue
        names += 1
        if names > most or len(entry[1]) + len(left) > 6:
            return tuple(way)
        term, left = (), list(entry[1]) + left


def way_keepers(run, node, name, most):
    found = []
    for term, _ in true_way(run, name, most):
        for keeper in sorted(keepers(run, len(run), term)):
            if keeper != node and keeper not in found:
                found.append(keeper)
    return tuple(found)


def is_spent(row, give):
    _, _, _, end, _ = row.give(give)[2]
    if number(row.line(give[0])[-1][1]) >= number(end):
        return True
    return all(row.has_sworn(give, holder) for holder in row.holders_of(give))


def why_not_fresh(run, node, name, most):
    """The numbers of the conditions that do not hold."""
    row = Row(tuple(event for event, _ in run))
    way = true_way(run, name, most)
    faults = set()
    for term, _ in way:
        here = keepers(run, len(run), term)
        if not here or node in here:
            faults.add(1)
    if any(event[0][0] == node and event[2][0] == "send" for event in row.events):
        faults.add(2)
    if any(event[2][0] == "start" and event[0][1] > 0 for event in row.events):
        faults.add(3)
    for term, label in way:
        if row.is_there(term) and not all(is_spent(row, give) for give in row.gives_on(term, label)):
            faults.add(4)
    return faults


def letters_heard(run, place):
    return sum(1 for event, _ in run[place:] if event[2][0] == "send" and any(other[2] == ("hear", event[0]) for other, _ in run))


def asked_faults(roster, run, node, name, most, asked, may_tell, check_run, truth):
    """What is wrong with a run that is to be what point 84 tells."""
    faults = []
    keepers_of_way = way_keepers(run, node, name, most)
    if asked[:len(run)] != run or any(instant != run[-1][1] for _, instant in asked[len(run):]):
        faults.append("rows")
    if check_run(roster, asked) != asked:
        faults.append("run")
    new = [event for event, _ in asked[len(run):]]
    for event in new[:-1]:
        if event[2] == ("start", None):
            if event[0] != (node, 0, 0) or any(other[0][0] == node for other, _ in run):
                faults.append("start")
        elif event[2][0] not in ("ask", "tick", "send", "hear", "give"):
            faults.append("kind")
    event_id, reading, deed = new[-1]
    if deed[:3] != ("tell", name, most) or event_id[0] != node:
        faults.append("telling")
    row = Row(tuple(event for event, _ in asked))
    seen = tuple(event for event in row.events if event[0] in row.pasts[event_id] and event[0] != event_id)
    if truth(asked, len(asked) - 1, name, most) != deed[3]:
        faults.append("truth")
    if may_tell(roster, seen + ((event_id, reading, ("tick",)),), node, name, most) != ("told", deed[3]):
        faults.append("right")
    if letters_heard(asked, len(run)) != len(keepers_of_way) + 1:
        faults.append("letters")
    if len(new) > 121:
        faults.append("size")
    return faults

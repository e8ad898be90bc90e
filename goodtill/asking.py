"""Asking: whom a node asks for a name, and how few letters bring it the answer."""

from goodtill.custody import keepers_at
from goodtill.errors import Refused
from goodtill.forms import kind_of
from goodtill.holding import gives_at, has_left, holders
from goodtill.rates import ONE, is_below, plus
from goodtill.runs import record_of_run, walk_so
from goodtill.stage import SLOW, Stage
from goodtill.views import is_later_start


def end_keepers(record, run, term):
    """The nodes that keep a page at the end of a run, ascending."""
    return sorted(keepers_at(record, run, len(run), term))


def true_way(run, name, most):
    """The places at which a walk looks by what is so at the end of a run."""
    return walk_so(run, len(run), name, most)[1]


def way_keepers(run, node, name, most):
    """The nodes but this one that keep a page of the true way at the end of a run, in the order of the way."""
    record = record_of_run(run)
    found = {}
    for term, _ in true_way(run, name, most):
        for keeper in end_keepers(record, run, term):
            if keeper != node:
                found[keeper] = True
    return tuple(found)


def is_spent(record, give):
    """Whether nobody can go by a promise any more: its giver has read the end, or all its holders have sworn."""
    newest = record.event(record.lines[give[0]][-1])
    if not is_below(newest[1], record.event(give)[2][3]):
        return True
    past = record.everything()
    return all([has_left(record, give, holder, past) for holder in holders(record, give, past)])


def is_unserved(record, run, node, place):
    """Whether a place's page is kept by others alone, and each promise on it is spent."""
    keepers = end_keepers(record, run, place[0])
    if keepers == [] or node in keepers:
        return False
    return all([is_spent(record, give) for give in gives_at(record, place[0], place[1])])


def is_fresh(run, node, name, most):
    """Whether others keep all pages of a name, and a node that has written no letter holds nothing of them."""
    for event, _ in run:
        if is_later_start(event) or (event[0][0] == node and kind_of(event) == "send"):
            return False
    record = record_of_run(run)
    return all([is_unserved(record, run, node, place) for place in true_way(run, name, most)])


def letters_heard(run, place):
    """How many sends at a place of a run, or behind it, are heard."""
    heard = {event[2][1]: True for event, _ in run if kind_of(event) == "hear"}
    return len([event for event, _ in run[place:] if kind_of(event) == "send" and event[0] in heard])


def ask_round(stage, node, stops, now):
    """Lets a letter go round from a node: each house promises it its places and writes to the next one."""
    houses = list(stops)
    for house, to in zip(houses, houses[1:] + [node]):
        for term, label in stops[house]:
            end = plus(stage.shown(house, now), ONE)
            stage.do(house, ("give", term, label, end, node), now)
        stage.letter(house, to, now)


def asked_run(roster, run, node, name, most):
    """The run with a node's asking behind it: one letter to each house of the way, and one back."""
    if not is_fresh(run, node, name, most):
        raise Refused(name)
    record, now = record_of_run(run), run[-1][1]
    stops = {}
    for place in true_way(run, name, most):
        stops.setdefault(end_keepers(record, run, place[0])[0], []).append(place)
    stage = Stage(roster, SLOW)
    for event, instant in run:
        stage.lay(event, instant)
    stage.do(node, ("ask", name, most), now)
    stage.letter(node, list(stops)[0], now)
    ask_round(stage, node, stops, now)
    stage.do(node, ("tell", name, most, walk_so(run, len(run), name, most)[0]), now)
    return stage.run()

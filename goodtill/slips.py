"""A run that shows that a node may not tell an answer."""

from goodtill.errors import Refused
from goodtill.finders import told_by
from goodtill.fits import earliest_fit
from goodtill.forms import is_answer, kind_of
from goodtill.houses import others_bound
from goodtill.orders import timed
from goodtill.promises import still_to_read
from goodtill.rates import NOUGHT, times, top_of
from goodtill.sight import sight_of
from goodtill.stage import FAST, Stage
from goodtill.tree import walk_view
from goodtill.walks import contents_of, walk_by


def far_back(sight):
    """How far back an event has to be for its node's clock, going on as fast as it can, to read all ends by now."""
    gives = [event[0] for event in sight.record.events if kind_of(event) == "give"]
    return top_of([NOUGHT] + [times(sight.bounds(give[0])[0], still_to_read(sight, give)[1]) for give in gives])


def early_instants(sight):
    """Instants for a node's view: its newest event at nought, all others as early as can be."""
    newest = sight.newest_by(sight.node)[0]
    fit = earliest_fit(sight.roster, tuple(sight.record.events), newest, far_back(sight))
    return {event[0]: instant for event, instant in zip(sight.record.events, fit)}


def left_ahead(sight):
    """The event next ahead of what last left the node, if that is a start; otherwise None."""
    if sight.left is None or kind_of(sight.record.event(sight.left)) != "start":
        return None
    return sight.record.neighbours(sight.left)[0]


def staged(sight, house):
    """The node's view as early as can be, and the id of what brings a house all that has left the node, or None.

    If a start was the last that left, only its life's own letters could tell of it; so the life ahead of it writes
    one letter more, which tells of all that the start keeps.
    """
    stage, left = Stage(sight.roster, FAST), sight.left
    last = left_ahead(sight)
    for event, instant in timed(sight.record, early_instants(sight)):
        stage.lay(event, instant)
        if event == last:
            left = stage.do(sight.node, ("send", house), instant)
    return stage, left


def gather(stage, sight, house, left):
    """Lets a house hear all that others can have seen of the node's view."""
    writers = {node: True for node in sight.record.lines if node not in (sight.node, house)}
    if left is not None and left not in sight.record.places:
        stage.do(house, ("hear", left), NOUGHT)
    elif left is not None and kind_of(sight.record.event(left)) == "send":
        to = sight.record.event(left)[2][1]
        stage.do(to, ("hear", left), NOUGHT)
        if to != house:
            writers[to] = True
    for node in writers:
        stage.letter(node, house, NOUGHT)


def call_back(stage, sight, house, place):
    """Lets all holders of promises on a place, but the node and the house itself, swear them off and tell the house."""
    bound = {}
    for give in sight.promises_on(place[0], place[1]):
        for holder in others_bound(sight, give):
            if holder != house:
                bound.setdefault(holder, []).append(give)
    for holder, gives in bound.items():
        stage.letter(house, holder, NOUGHT)
        for give in gives:
            stage.do(holder, ("swear", give), NOUGHT)
        stage.letter(holder, house, NOUGHT)


def other_entry(sight, place, name, most, answer):
    """An entry that changes a place on the way of a walk, and its answer."""
    contents = contents_of(sight.record.events)
    contents[place] = (place[0], None)
    if walk_by(contents, name, most)[0] != answer:
        return None
    # Nothing stands there, or nothing would do as well: with another name the walk takes up one name more.
    return ("name", ("a",))


def change_truth(sight, place, name, most, answer):
    """A stage on which a house changes a place of the way of a walk, of which the node is not certain."""
    house = sight.record.keeper_row(place[0], sight.whole)[1]
    stage, left = staged(sight, house)
    gather(stage, sight, house, left)
    call_back(stage, sight, house, place)
    stage.do(house, ("put",) + place + (other_entry(sight, place, name, most, answer),), NOUGHT)
    return stage


def slip_by(sight, name, most, answer):
    """Some run that shows that a node may not tell an answer, which it may not tell."""
    if walk_view(sight.record.events, name, most)[0] == answer:
        _, term, label = told_by(sight, name, most)[0]
        stage = change_truth(sight, (term, label), name, most, answer)
    else:
        stage = Stage(sight.roster, FAST)
        for event, instant in timed(sight.record, early_instants(sight)):
            stage.lay(event, instant)
    stage.do(sight.node, ("tell", name, most, answer), NOUGHT)
    return stage.run()


def slip_run(roster, events, node, name, most, answer):
    """Some run that shows that a node may not tell an answer."""
    sight = sight_of(roster, events, node)
    if not is_answer(answer) or told_by(sight, name, most)[0] == ("told", answer):
        raise Refused(answer)
    return slip_by(sight, name, most, answer)

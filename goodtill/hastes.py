"""A run that shows that a node may not put an entry."""

from goodtill.coming import would_change
from goodtill.errors import Refused
from goodtill.forms import is_entry, kind_of
from goodtill.houses import alive_on, begins_later_life, need_house, others_bound, put_by, threats
from goodtill.orders import late_instants, timed
from goodtill.rates import NOUGHT, ONE, plus
from goodtill.sight import sight_of
from goodtill.stage import SLOW, Stage
from goodtill.tree import walk_view, way_down


class Witness:
    """A node that nobody of a view knows, and by whom others are heard: the teller of an elder answer."""

    def __init__(self, stage, node):
        self.stage = stage
        self.node = node
        self.letters = []

    def call(self, node, reading, instant):
        """Lets a node hear a letter that is written now, and write one."""
        letter = self.stage.do(self.node, ("send", node), instant)
        self.stage.do_at(node, ("hear", letter), reading, instant)
        self.letters.append(self.stage.do_at(node, ("send", self.node), reading, instant))

    def write(self, node):
        """Writes a letter to a node, heard at once."""
        self.stage.letter(self.node, node, NOUGHT)

    def await_letter(self, node):
        """Lets a node write a letter, which is kept to be heard."""
        self.letters.append(self.stage.do(node, ("send", self.node), NOUGHT))

    def hear_all(self):
        """Hears all letters that were kept."""
        for letter in self.letters:
            self.stage.do(self.node, ("hear", letter), NOUGHT)
        self.letters = []


def named_by(event):
    """The nodes that an event names."""
    deed = event[2]
    nodes = [event[0][0]]
    if deed[0] in ("send", "give", "pass", "hand"):
        nodes.append(deed[-1])
    if deed[0] == "put" and deed[3] is not None and deed[3][0] == "page":
        nodes.append(deed[3][1])
    return nodes


def unnamed(events):
    """The least node that some events do not name."""
    named = {0: True}
    for event in events:
        for node in named_by(event):
            named[node] = True
    node = 0
    while node in named:
        node += 1
    return node


def taken_gives(sight, way):
    """For each place of a way a promise that is alive on it, if it is shut; None for an open one."""
    taken = {}
    for place in way:
        taken[place] = alive_on(sight, place)[0] if sight.is_sole(place[0]) else None
    return taken


def points_of(sight, gives):
    """The starts of later lives among the entry points by which some promises are alive, one for each."""
    points = [threats(sight, give)[0][0] for give in gives]
    return [point for point in points if point is not None and begins_later_life(point)]


def lay_view(witness, sight, points):
    """Lays a node's view as late as can be; beside the ends of elder lives the witness leaves its marks."""
    ends = [sight.record.neighbours(event[0])[0] for event in sight.record.events if begins_later_life(event[0])]
    for event, instant in timed(sight.record, late_instants(sight)):
        if event[0] in points:
            witness.call(event[0][0], event[1], instant)
        witness.stage.lay(event, instant)
        if event in ends:
            witness.call(event[0][0], event[1], instant)


def helpers(sight, taken):
    """For each node that is to promise or to pass something to the witness what it does, deeds without the receiver."""
    deeds = {}
    for (term, label), give in taken.items():
        if give is None:
            deeds.setdefault(sight.record.keeper_row(term, sight.whole)[1], []).append(("give", term, label))
        else:
            deeds.setdefault(others_bound(sight, give)[0], []).append(("pass", give))
    return deeds


def gather_all(witness, sight, deeds):
    """Lets the witness hear all that others can have seen of the node's view, but a start that left last."""
    others = {node: True for node in sight.record.lines if node != sight.node}
    if sight.left is not None and kind_of(sight.record.event(sight.left)) == "send":
        to = sight.record.event(sight.left)[2][1]
        witness.stage.do(to, ("hear", sight.left), NOUGHT)
        others[to] = True
    for node in deeds:
        others[node] = True
    for node in others:
        witness.write(node)
        witness.await_letter(node)
    witness.hear_all()


def be_promised(witness, deeds):
    """Lets nodes promise or pass to the witness what it needs."""
    for node, rows in deeds.items():
        witness.write(node)
        for deed in rows:
            # A promise a tick long is enough: the witness tells at once.
            end = (plus(witness.stage.shown(node, NOUGHT), ONE),) if deed[0] == "give" else ()
            witness.stage.do(node, deed + end + (witness.node,), NOUGHT)
        witness.await_letter(node)
    witness.hear_all()


def haste_by(sight, term, label, entry):
    """Some run that shows that a node may not put an entry, which it may not put."""
    way = way_down(sight.record, term, label)
    taken = taken_gives(sight, way)
    witness = Witness(Stage(sight.roster, SLOW), unnamed(sight.record.events))
    lay_view(witness, sight, points_of(sight, [give for give in taken.values() if give is not None]))
    witness.stage.do(sight.node, ("put", term, label, entry), NOUGHT)
    deeds = helpers(sight, taken)
    gather_all(witness, sight, deeds)
    be_promised(witness, deeds)
    name = tuple([below for _, below in way])
    witness.stage.do(witness.node, ("tell", name, 0, walk_view(sight.record.events, name, 0)[0]), NOUGHT)
    return witness.stage.run()


def haste_run(roster, events, node, term, label, entry):
    """Some run that shows that a node may not put an entry."""
    sight = sight_of(roster, events, node)
    need_house(sight, term, label)
    if put_by(sight, term, label)[0] == "let":
        raise Refused((term, label))
    if not is_entry(entry) or not would_change(sight.record, term, label, entry, sight.whole):
        raise Refused(entry)
    return haste_by(sight, term, label, entry)

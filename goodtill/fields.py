"""Fields: worlds whose nodes keep to the rule by themselves, led by deeds from outside."""

from goodtill.asks import has_handed, has_promised, is_answered, open_asks, turn_of, way_of
from goodtill.coming import would_change
from goodtill.edges import bounds_of
from goodtill.errors import BadDeed
from goodtill.finders import told_by
from goodtill.forms import LAST_NODE, are_parts, is_pointer
from goodtill.holding import covers, has_give, has_left, holders
from goodtill.houses import put_by, ticks_promised
from goodtill.posts import Post
from goodtill.rates import NOUGHT, is_below, low_of, over, plus
from goodtill.runs import World

# The parts of each deed behind its kind.
DEEDS = {
    "time": ("fraction",),
    "clock": ("node", "fraction"),
    "ask": ("node", "name", "most"),
    "wish": ("node", "term", "label", "entry"),
    "hand": ("node", "term", "node"),
    "forget": ("node", "id"),
    "bring": ("count",),
    "lose": ("count",),
    "double": ("count",),
}


class Wish:
    """A wish, what its node's clock showed when it was made and when the entry was put, and whether it waits."""

    def __init__(self, deed, wished):
        self.deed = deed
        self.wished = wished
        self.met = None
        self.waits = True


def is_formed(deed):
    """Whether any value has the form of a deed."""
    if not isinstance(deed, tuple) or deed == () or not isinstance(deed[0], str) or deed[0] not in DEEDS:
        return False
    return are_parts(DEEDS[deed[0]], deed[1:])


def keeps_page(sight, term):
    """Whether the node keeps a page that is there."""
    return sight.record.has_page(term, sight.whole) and sight.keeps(term)


def holds_still(sight, give):
    """Whether the node holds a promise that is there, and has not sworn it off."""
    if not has_give(sight.record, give, sight.whole) or sight.node not in holders(sight.record, give, sight.whole):
        return False
    return not has_left(sight.record, give, sight.node, sight.whole)


def may_do(sight, deed):
    """Whether by its sight a node may do a deed of its own, which has the form of one."""
    if deed[0] == "ask":
        return True
    if deed[0] == "forget":
        return holds_still(sight, deed[2])
    if not keeps_page(sight, deed[2]):
        return False
    if deed[0] == "hand":
        return deed[3] != sight.node
    return would_change(sight.record, deed[2], deed[3], deed[4], sight.whole)


def event_deed(deed):
    """What the node's own event is by a deed of its own."""
    if deed[0] == "wish":
        return ("tick",)
    if deed[0] == "forget":
        return ("swear", deed[2])
    return (deed[0],) + deed[2:]


def is_idle(sight, wish):
    """Whether a wish can't be met any more, or what it wishes stands there already."""
    _, _, term, label, entry = wish.deed
    if not sight.keeps(term):
        return True
    return not is_pointer(entry) and sight.record.content(term, label, sight.whole)[1] == entry


def is_let(sight, wish):
    """Whether the node may put what it wishes; it keeps the page."""
    return put_by(sight, wish.deed[2], wish.deed[3])[0] == "let"


def letters_due(sight, deed, given):
    """To whom a node writes behind a deed, given the ids of the asks for which it has promised; some perhaps twice."""
    due = []
    if deed[0] == "hand":
        due.append(deed[3])
    if deed[0] == "forget" and deed[2][0] != sight.node:
        due.append(deed[2][0])
    if deed[0] in ("bring", "double"):
        for ask in open_asks(sight):
            if ask[0][0] != sight.node and (ask[0] in given or has_handed(sight, ask)):
                house = turn_of(sight, ask)
                due.append(ask[0][0] if house is None else house)
    if deed[0] in ("bring", "double", "ask"):
        own = [turn_of(sight, ask) for ask in open_asks(sight) if ask[0][0] == sight.node]
        due.extend([house for house in own if house is not None])
    return due


class Field:
    """A world in which time, clocks, letters and wishes are led, and the nodes do what is due."""

    def __init__(self, roster, length):
        self._roster = roster
        self._length = length
        self._world = World(roster)
        self._now = NOUGHT
        self._shown = {node: NOUGHT for node in range(LAST_NODE + 1)}
        self._paces = {node: (bounds_of(roster, node)[0], 1) for node in range(LAST_NODE + 1)}
        self._letters = []
        self._wishes = []

    def run(self):
        """What has happened."""
        return self._world.run()

    def under_way(self):
        """The letters under way, the eldest first: the id of the send, and to whom it goes."""
        return tuple(self._letters)

    def done(self):
        """For each wish: the deed, what the node's clock showed then, and when the entry was put, or None."""
        return tuple([(wish.deed, wish.wished, wish.met) for wish in self._wishes])

    def do(self, deed):
        """Does a deed, and what the nodes do by it."""
        if not is_formed(deed):
            raise BadDeed(0)
        if deed[0] == "time":
            self._pass_time(deed[1])
        elif deed[0] == "clock":
            self._set_pace(deed[1], deed[2])
        elif deed[0] in ("bring", "lose", "double"):
            self._lead_letter(deed)
        else:
            self._lead_node(deed)

    def _pass_time(self, length):
        """Lets time go by."""
        if is_below(length, NOUGHT):
            raise BadDeed(0)
        self._now = plus(self._now, length)
        for node, pace in self._paces.items():
            self._shown[node] = plus(self._shown[node], over(length, pace))

    def _set_pace(self, node, pace):
        """Sets how long the ticks of a clock take from now on."""
        a, b = bounds_of(self._roster, node)
        if is_below(pace, (a, 1)) or is_below((b, 1), pace):
            raise BadDeed(0)
        self._paces[node] = pace

    def _post(self, node):
        """A node at the present instant."""
        return Post(self._roster, self._world, node, self._shown[node], self._now)

    def _lead_letter(self, deed):
        """Brings, loses or doubles a letter."""
        kind, at = deed
        if at >= len(self._letters):
            raise BadDeed(0)
        send, to = self._letters[at]
        if kind != "double":
            self._letters.pop(at)
        if kind != "lose":
            self._act(self._post(to), ("hear", send), deed)

    def _lead_node(self, deed):
        """Lets a node do a deed of its own."""
        post = self._post(deed[1])
        if not may_do(post.sight(), deed):
            raise BadDeed(0)
        if deed[0] == "wish":
            self._wishes.append(Wish(deed, post.clock))
        self._act(post, event_deed(deed), deed)

    def _act(self, post, own, deed):
        """The node's own event, and what it does behind it by the rule."""
        post.begin()
        post.write(own)
        self._meet_wishes(post)
        given = self._give_promises(post) if deed[0] in ("bring", "double") else {}
        self._tell_answers(post)
        self._write_letters(post, deed, given)

    def _waiting(self, node):
        """The wishes of a node that wait, the eldest first."""
        return [wish for wish in self._wishes if wish.waits and wish.deed[1] == node]

    def _ripe(self, post):
        """The eldest wish of a node that is ripe, None if none is."""
        sight = post.sight()
        for wish in self._waiting(post.node):
            if is_idle(sight, wish) or is_let(sight, wish):
                return wish
        return None

    def _meet_wishes(self, post):
        """Puts what may be put, and gives up what can't be met or is met, until nothing is ripe."""
        wish = self._ripe(post)
        while wish is not None:
            if not is_idle(post.sight(), wish):
                post.write(("put",) + wish.deed[2:])
                wish.met = post.clock
            wish.waits = False
            wish = self._ripe(post)

    def _give_promises(self, post):
        """Promises the open asks of others what is asked of this house; the ids of the asks for which it gave."""
        given = {}
        for ask in open_asks(post.sight()):
            if ask[0][0] == post.node:
                continue
            for term, label in way_of(post.sight(), ask):
                ticks = self._ticks_for(post.sight(), term, label, ask)
                if ticks is not None:
                    post.write(("give", term, label, plus(post.clock, ticks), ask[0][0]))
                    given[ask[0]] = True
        return given

    def _ticks_for(self, sight, term, label, ask):
        """For how many ticks the node promises a place for an ask, None if it does not."""
        if not sight.keeps(term) or has_promised(sight, sight.node, (term, label), ask):
            return None
        span = sight.record.cover(term, label, sight.whole)
        wished = [wish.deed[3] for wish in self._waiting(sight.node) if wish.deed[2] == term]
        ends = [ticks_promised(sight, term, other) for other in wished if covers(span, other)]
        # A promise that reaches no further than those that are given already lets no wish wait longer.
        ticks = low_of([self._length] if ends == [] else ends)
        return ticks if is_below(NOUGHT, ticks) else None

    def _tell_answers(self, post):
        """Tells what may be told to the node's own open asks."""
        for ask in open_asks(post.sight()):
            if ask[0][0] == post.node and not is_answered(post.sight(), ask):
                told = told_by(post.sight(), ask[2][1], ask[2][2])[0]
                if told[0] == "told":
                    post.write(("tell",) + ask[2][1:] + (told[1],))

    def _write_letters(self, post, deed, given):
        """Writes the letters that are due, to each node once."""
        due = {to: True for to in letters_due(post.sight(), deed, given)}
        for to in due:
            self._letters.append((post.write(("send", to)), to))

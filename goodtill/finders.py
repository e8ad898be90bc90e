"""Which answers a node may tell, and for how long."""

from goodtill.errors import Refused
from goodtill.holding import has_sworn_itself, holders
from goodtill.promises import own_ticks
from goodtill.rates import NOUGHT, is_below, low_of
from goodtill.sight import sight_of
from goodtill.tree import walk_view


def serves(sight, give):
    """Whether a node may go by a promise of another node's as long as it stands."""
    if give[0] == sight.node or sight.node not in holders(sight.record, give, sight.whole):
        return False
    return not has_sworn_itself(sight.record, give, sight.node, sight.common)


def best_hold(sight, gives):
    """Of some promises, ascending, the one by which a node is certain longest, and its ticks; None, None for none."""
    best, most = None, NOUGHT
    for give in gives:
        ticks = own_ticks(sight, give) if serves(sight, give) else None
        if ticks is not None and is_below(most, ticks):
            best, most = give, ticks
    return (None, None) if best is None else (best, most)


def hold_by(sight, term, gives):
    """By what a node is certain of a part of a page with these promises on it, and for how many ticks.

    None and None if it isn't; None for ticks, too, if the page is its own.
    """
    if sight.is_sole(term):
        return ("own",), None
    give, ticks = best_hold(sight, gives)
    return (None if give is None else ("promise", give)), ticks


def hold_on(sight, term, label):
    """By what a node is certain of a place, and for how many ticks, as hold_by tells it."""
    return hold_by(sight, term, sight.promises_on(term, label))


def told_by(sight, name, most):
    """What a node may tell of a name, and for how many ticks, None if by its own pages alone."""
    answer, way = walk_view(sight.record.events, name, most)
    ticks = []
    for term, label in way:
        why, left = hold_on(sight, term, label)
        if why is None:
            return ("not", term, label), None
        ticks.append(left)
    return ("told", answer), low_of(ticks)


def ticks_to_tell(sight, name, most):
    """For how many ticks a node may tell its answer, None if for ever."""
    told, ticks = told_by(sight, name, most)
    if told[0] == "not":
        raise Refused(name)
    return ticks


def why_certain(roster, events, node, term, label):
    """By what a node is certain of a place, None if it isn't."""
    sight = sight_of(roster, events, node)
    sight.need_page(term)
    return hold_on(sight, term, label)[0]


def may_tell(roster, events, node, name, most):
    """The answer that a node may tell, or the first place of its way of which the node isn't certain."""
    return told_by(sight_of(roster, events, node), name, most)[0]


def good_ticks(roster, events, node, name, most):
    """For how many ticks a node may tell its answer, if nothing comes to it; None if for ever."""
    return ticks_to_tell(sight_of(roster, events, node), name, most)

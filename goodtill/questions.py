"""The questions that a desk answers, by the roster, the row of events and the run that it holds."""

from goodtill.errors import BadRun, Refused
from goodtill.finders import good_ticks, may_tell, why_certain
from goodtill.hastejudge import haste_serves
from goodtill.houses import may_put, own_end, put_wait, why_alive
from goodtill.pages import content_of, keeper_of
from goodtill.pocket import pocket_of
from goodtill.promises import does_stand, has_sworn, holders_of, is_past, span_of, ticks_left
from goodtill.recall import fewest_swears
from goodtill.runs import check_run, is_run, is_stale, walk_truth
from goodtill.slipjudge import slip_serves
from goodtill.stops import harm_of, needed_flush, stop_serves
from goodtill.texts import (
    answer_text, entry_text, event_text, id_text, name_text, number_text, place_text, span_text, term_text, ticks_text,
    words_of, yes_text,
)
from goodtill.tree import walk_view
from goodtill.views import common_view, view_of
from goodtill.webs import ways_from


def ask_event(held, parts):
    """The event line of an event of the row."""
    if parts[0] >= len(held.events):
        raise Refused(parts[0])
    return event_text(held.events[parts[0]])


def ask_show(held, parts):
    """The line of a pair of the run."""
    if parts[0] >= len(held.run):
        raise Refused(parts[0])
    event, instant = held.run[parts[0]]
    return f"lay {number_text(instant)} {event_text(event)}"


def ask_view(held, parts):
    """What a node has seen."""
    return words_of([id_text(event[0]) for event in view_of(held.events, parts[0])])


def ask_common(held, parts):
    """What of it others can have seen."""
    return words_of([id_text(event[0]) for event in common_view(held.events, parts[0])])


def ask_way(held, parts):
    """The longest way from one event to another."""
    x, y = parts
    ways = ways_from(held.roster, held.events, x)
    found = [far for event, far in zip(held.events, ways) if event[0] == y]
    if found == []:
        raise Refused(y)
    return number_text(found[0])


def ask_keeper(held, parts):
    """The newest keeper row of a page and its keeper."""
    row, node = keeper_of(held.events, parts[0])
    return f"{term_text(row)} {node}"


def ask_content(held, parts):
    """What stands at a place, and whose put it is."""
    put, entry = content_of(held.events, parts[0], parts[1])
    return f"{term_text(put)} {entry_text(entry)}"


def ask_walk(held, parts):
    """The answer of a walk by what a node has seen."""
    node, name, most = parts
    return answer_text(walk_view(view_of(held.events, node), name, most)[0])


def ask_span(held, parts):
    """What a promise covers."""
    return span_text(span_of(held.events, parts[0]))


def ask_holders(held, parts):
    """Who holds a promise."""
    return words_of([str(node) for node in holders_of(held.events, parts[0])])


def ask_sworn(held, parts):
    """Whether a node has sworn a promise off."""
    return yes_text(has_sworn(held.events, parts[0], parts[1]))


def ask_stands(held, parts):
    """Whether a promise surely is not at its end yet."""
    return yes_text(does_stand(held.roster, held.events, parts[0], parts[1]))


def ask_past(held, parts):
    """Whether a promise surely is at its end."""
    return yes_text(is_past(held.roster, held.events, parts[0], parts[1]))


def ask_left(held, parts):
    """For how many ticks a promise surely stands."""
    return number_text(ticks_left(held.roster, held.events, parts[0], parts[1]))


def ask_alive(held, parts):
    """Why a promise is alive."""
    why = why_alive(held.roster, held.events, parts[0], parts[1])
    if why is None:
        return "none"
    return words_of([why[0]] + [id_text(point) for point in why[1:]])


def ask_why(held, parts):
    """By what a node is certain of a place."""
    node, term, label = parts
    why = why_certain(held.roster, held.events, node, term, label)
    if why is None:
        return "none"
    return words_of([why[0]] + [id_text(give) for give in why[1:]])


def ask_told(held, parts):
    """What a node may tell."""
    node, name, most = parts
    told = may_tell(held.roster, held.events, node, name, most)
    if told[0] == "told":
        return f"told {answer_text(told[1])}"
    return f"not {place_text(told[1], told[2])}"


def ask_good(held, parts):
    """For how long a node may tell it."""
    node, name, most = parts
    return ticks_text(good_ticks(held.roster, held.events, node, name, most))


def pocket_text(row):
    """A row of a pocket."""
    labels, span, entry, ticks = row
    return words_of([name_text(labels) or ".", span_text(span), entry_text(entry), ticks_text(ticks)])


def ask_pocket(held, parts):
    """All of which a node is certain."""
    rows = pocket_of(held.roster, held.events, parts[0])
    return "; ".join([pocket_text(row) for row in rows]) if rows else "none"


def ask_may(held, parts):
    """Whether a node may change a place."""
    node, term, label = parts
    may = may_put(held.roster, held.events, node, term, label)
    if may[0] == "not":
        return words_of(["not"] + [id_text(give) for give in may[1]])
    if may[1] == "broken":
        return "let broken"
    return f"let {place_text(may[1][0], may[1][1])}"


def ask_wait(held, parts):
    """How long a node waits to change a place."""
    node, term, label = parts
    return number_text(put_wait(held.roster, held.events, node, term, label))


def ask_end(held, parts):
    """How long it is to the last end that a node has promised on a place itself."""
    node, term, label = parts
    return number_text(own_end(held.events, node, term, label))


def ask_fewest(held, parts):
    """How many swearings let a change at the least."""
    node, term, label = parts
    return str(fewest_swears(held.roster, held.events, node, term, label))


def ask_needed(held, parts):
    """What must be flushed ahead of a letter or a telling."""
    node, flushed, deed = parts
    return id_text(needed_flush(held.roster, held.events, node, flushed, deed))


def ask_check(held, parts):
    """Whether the run is one, or where it is at fault."""
    try:
        check_run(held.roster, held.run)
    except BadRun as error:
        return str(error.at)
    return "run"


def need_run(held):
    """Raises Refused if the run is none."""
    if not is_run(held.roster, held.run):
        raise Refused(held.run)


def ask_stale(held, parts):
    """Whether a telling of the run is stale."""
    need_run(held)
    return yes_text(is_stale(held.run, parts[0]))


def ask_truth(held, parts):
    """The answer of a walk by what is so at a place of the run."""
    need_run(held)
    place, name, most = parts
    if place > len(held.run):
        raise Refused(place)
    return answer_text(walk_truth(held.run, place, name, most))


def ask_harm(held, parts):
    """The first harm in the run."""
    need_run(held)
    harm = harm_of(held.run)
    return "none" if harm is None else f"{harm[0]} {harm[1]}"


def judge_slip(held, parts):
    """Whether the run shows that a node may not tell an answer."""
    node, name, most, answer = parts
    return yes_text(slip_serves(held.roster, held.events, node, name, most, answer, held.run))


def judge_haste(held, parts):
    """Whether the run shows that a node may not put an entry."""
    node, term, label, entry = parts
    return yes_text(haste_serves(held.roster, held.events, node, term, label, entry, held.run))


def judge_stop(held, parts):
    """Whether the run shows what comes of a deed ahead of which something should have been flushed."""
    node, flushed, deed = parts
    return yes_text(stop_serves(held.roster, held.events, node, flushed, deed, held.run))


# For each question the parts that stand behind its word.
QUESTION_PARTS = {
    "event": ("count",),
    "show": ("count",),
    "view": ("node",),
    "common": ("node",),
    "way": ("id", "id"),
    "keeper": ("term",),
    "content": ("term", "label"),
    "walk": ("node", "name", "most"),
    "span": ("id",),
    "holders": ("id",),
    "sworn": ("id", "node"),
    "stands": ("node", "id"),
    "past": ("node", "id"),
    "left": ("node", "id"),
    "alive": ("node", "id"),
    "why": ("node", "term", "label"),
    "told": ("node", "name", "most"),
    "good": ("node", "name", "most"),
    "pocket": ("node",),
    "may": ("node", "term", "label"),
    "wait": ("node", "term", "label"),
    "end": ("node", "term", "label"),
    "fewest": ("node", "term", "label"),
    "needed": ("node", "kept", "told"),
    "check": (),
    "stale": ("count",),
    "truth": ("count", "name", "most"),
    "harm": (),
}

QUESTIONS = {
    "event": ask_event,
    "show": ask_show,
    "view": ask_view,
    "common": ask_common,
    "way": ask_way,
    "keeper": ask_keeper,
    "content": ask_content,
    "walk": ask_walk,
    "span": ask_span,
    "holders": ask_holders,
    "sworn": ask_sworn,
    "stands": ask_stands,
    "past": ask_past,
    "left": ask_left,
    "alive": ask_alive,
    "why": ask_why,
    "told": ask_told,
    "good": ask_good,
    "pocket": ask_pocket,
    "may": ask_may,
    "wait": ask_wait,
    "end": ask_end,
    "fewest": ask_fewest,
    "needed": ask_needed,
    "check": ask_check,
    "stale": ask_stale,
    "truth": ask_truth,
    "harm": ask_harm,
}

JUDGES = {"slip": judge_slip, "haste": judge_haste, "stop": judge_stop}

# For each run that shows something the parts of which it is told.
SHOWING_PARTS = {
    "slip": ("node", "name", "most", "answer"),
    "haste": ("node", "term", "label", "entry"),
    "stop": ("node", "kept", "told"),
}


def parts_of_question(kind):
    """The parts of a question, None if there is no such question."""
    return QUESTION_PARTS.get(kind)


def parts_of_showing(kind):
    """The parts of which a run that shows something is told, None if there is no such run."""
    return SHOWING_PARTS.get(kind)


def answer_to(held, kind, parts):
    """The answer to a question."""
    ask = QUESTIONS[kind]
    return ask(held, parts)


def judgement_of(held, kind, parts):
    """Whether the run shows what is told."""
    judge = JUDGES[kind]
    return judge(held, parts)

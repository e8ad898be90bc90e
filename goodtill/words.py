"""Lines for a desk, read word by word."""

from goodtill.errors import BadText
from goodtill.forms import FIRST_ENTRIES, KINDS, LAST_NODE, MOST_NAMES, PARTS, is_most, is_node
from goodtill.labels import is_label, is_name
from goodtill.rates import read_fraction

FIGURES = "0123456789"


class Line:
    """The words of a line, and how many of them have been read."""

    def __init__(self, text):
        self.words = text.split(" ")
        self.at = 0

    def has_more(self):
        """Whether there is a word that has not been read."""
        return self.at < len(self.words)

    def take(self):
        """The next word."""
        if not self.has_more():
            raise BadText(self.at)
        self.at += 1
        return self.words[self.at - 1]

    def need(self, holds):
        """Raises BadText for the word that was read last, if something does not hold of it."""
        if not holds:
            raise BadText(self.at - 1)

    def close(self):
        """Raises BadText if there is a word more."""
        if self.has_more():
            raise BadText(self.at)


def whole_of(word):
    """The whole number that a word is, None if it is none."""
    if word == "" or not all([sign in FIGURES for sign in word]):
        return None
    return int(word) if word[0] != "0" or word == "0" else None


def id_of(word):
    """The id that a word is, None if it is none."""
    numbers = [whole_of(part) for part in word.split(".")]
    if len(numbers) != 3 or None in numbers or numbers[0] > LAST_NODE:
        return None
    return tuple(numbers)


def take_count(line):
    """A whole number."""
    number = whole_of(line.take())
    line.need(number is not None)
    return number


def take_node(line):
    """A node."""
    node = whole_of(line.take())
    line.need(is_node(node))
    return node


def take_most(line):
    """How many names a walk follows at most."""
    most = whole_of(line.take())
    line.need(is_most(most))
    return most


def take_id(line):
    """An id."""
    event_id = id_of(line.take())
    line.need(event_id is not None)
    return event_id


def take_term(line):
    """A term."""
    word = line.take()
    term = () if word == "root" else id_of(word)
    line.need(term is not None)
    return term


def take_kept(line):
    """An id, or nothing."""
    word = line.take()
    event_id = id_of(word)
    line.need(word == "none" or event_id is not None)
    return event_id


def take_label(line):
    """A label."""
    label = line.take()
    line.need(is_label(label))
    return label


def take_name(line):
    """A name."""
    name = tuple(line.take().split("."))
    line.need(is_name(name))
    return name


def take_fraction(line):
    """A fraction."""
    word = line.take()
    try:
        return read_fraction(word)
    except BadText:
        raise BadText(line.at - 1) from None


def plain_entry(line, kind):
    """The value or the name of which the word for its kind has been read."""
    return ("value", take_count(line)) if kind == "value" else ("name", take_name(line))


def take_first_entries(line):
    """The first entries of a page, up to the end of the line."""
    rows, ahead = [], ""
    while line.has_more():
        label = line.take()
        line.need(len(rows) < FIRST_ENTRIES and is_label(label) and label > ahead)
        kind = line.take()
        line.need(kind in ("value", "name"))
        rows.append((label, plain_entry(line, kind)))
        ahead = label
    return tuple(rows)


def take_entry(line):
    """An entry; that of a page goes up to the end of the line."""
    kind = line.take()
    line.need(kind in ("none", "value", "name", "page"))
    if kind == "none":
        return None
    if kind == "page":
        house = take_node(line)
        return ("page", house, take_first_entries(line))
    return plain_entry(line, kind)


def take_found(line):
    """What a walk ends with."""
    kind = line.take()
    line.need(kind in ("value", "page", "nothing", "long", "far"))
    if kind == "value":
        return ("value", take_count(line))
    if kind == "page":
        house = take_node(line)
        return ("page", house, take_term(line))
    return (kind,)


def take_answer(line):
    """An answer, up to the end of the line."""
    found, names = take_found(line), []
    while line.has_more():
        name = take_name(line)
        line.need(len(names) <= MOST_NAMES)
        names.append(name)
    return (found, tuple(names))


def take_told(line):
    """A letter or a telling that is asked about, up to the end of the line."""
    kind = line.take()
    line.need(kind in ("send", "tell"))
    if kind == "send":
        return ("send", take_node(line))
    name = take_name(line)
    most = take_most(line)
    return ("tell", name, most, take_answer(line))


TAKERS = {
    "kept": take_kept,
    "node": take_node,
    "id": take_id,
    "term": take_term,
    "label": take_label,
    "entry": take_entry,
    "fraction": take_fraction,
    "name": take_name,
    "most": take_most,
    "count": take_count,
    "answer": take_answer,
    "told": take_told,
}


def take_parts(line, parts):
    """Parts of a line, in their order, up to its end."""
    found = []
    for part in parts:
        take = TAKERS[part]
        found.append(take(line))
    line.close()
    return tuple(found)


def take_event(line, kind):
    """The event of an event line of which the word for its kind has been read."""
    event_id = take_id(line)
    reading = take_fraction(line)
    return (event_id, reading, (kind,) + take_parts(line, PARTS[kind]))


def take_laid(line):
    """An instant and the event of an event line."""
    instant = take_fraction(line)
    kind = line.take()
    line.need(kind in KINDS)
    return (take_event(line, kind), instant)

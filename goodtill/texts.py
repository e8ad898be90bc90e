"""The parts of a desk's answers, as words."""

from goodtill.forms import PARTS
from goodtill.rates import fraction_text


def words_of(parts):
    """Words with a blank between any two, none if there are none."""
    return " ".join(parts) if parts else "none"


def yes_text(holds):
    """Whether something holds."""
    return "yes" if holds else "no"


def whole_text(number):
    """A whole number."""
    return str(number)


def id_text(event_id):
    """An id, or None."""
    if event_id is None:
        return "none"
    return ".".join([str(number) for number in event_id])


def term_text(term):
    """A term."""
    return "root" if term == () else id_text(term)


def label_text(label):
    """A label, or None where there is no end."""
    return "-" if label is None else label


def name_text(name):
    """A name."""
    return ".".join(name)


def number_text(one):
    """A fraction, or None."""
    return "none" if one is None else fraction_text(one)


def ticks_text(one):
    """For how many ticks something is good, None if for ever."""
    return "ever" if one is None else fraction_text(one)


def entry_text(entry):
    """An entry."""
    if entry is None:
        return "none"
    if entry[0] == "value":
        return f"value {entry[1]}"
    if entry[0] == "name":
        return f"name {name_text(entry[1])}"
    rows = [f" {label} {entry_text(first)}" for label, first in entry[2]]
    return f"page {entry[1]}" + "".join(rows)


def answer_text(answer):
    """An answer."""
    found, names = answer
    words = [found[0]]
    if found[0] == "value":
        words.append(str(found[1]))
    if found[0] == "page":
        words.extend([str(found[1]), term_text(found[2])])
    return " ".join(words + [name_text(name) for name in names])


def span_text(span):
    """What a promise covers, or a part of a page."""
    return " ".join([span[0]] + [label_text(label) for label in span[1:]])


def place_text(term, label):
    """A place."""
    return f"{term_text(term)} {label}"


TEXTS = {
    "kept": id_text,
    "node": whole_text,
    "id": id_text,
    "term": term_text,
    "label": label_text,
    "entry": entry_text,
    "fraction": number_text,
    "name": name_text,
    "most": whole_text,
    "answer": answer_text,
}


def event_text(event):
    """The event line of an event."""
    event_id, reading, deed = event
    words = [deed[0], id_text(event_id), fraction_text(reading)]
    for part, value in zip(PARTS[deed[0]], deed[1:]):
        text = TEXTS[part]
        words.append(text(value))
    return " ".join(words)

"""Journals: what a node writes down, what a stop leaves of it, and its text."""

from goodtill.errors import BadOctets, BadText, Refused
from goodtill.forms import LAST_NODE, steps_back
from goodtill.pasts import newest_in
from goodtill.wire import decode_event, encode_event

SIGNS = "0123456789abcdef"
CHECK = 9973


class Journal:
    """The events that a node has written down, and how many of them are flushed."""

    def __init__(self, node):
        self._node = node
        self._rows = []
        self._ids = {}
        self._flushed = 0

    def write(self, event):
        """Puts an event behind the rows, if it is new and rests on rows."""
        if event[0] in self._ids:
            raise Refused(event[0])
        for step in steps_back(event):
            if step not in self._ids:
                raise Refused(step)
        self._rows.append(event)
        self._ids[event[0]] = True

    def flush(self):
        """Flushes all rows."""
        self._flushed = len(self._rows)

    def cuts(self):
        """How many rows a stop leaves at the fewest and at the most."""
        return (self._flushed, len(self._rows))

    def text(self):
        """The text of the journal, a line for each row behind the first line."""
        lines = [first_line(self._node)] + [row_line(event) for event in self._rows]
        return "".join([line + "\n" for line in lines])

    def rows(self):
        """The rows, in the order in which they were written."""
        return tuple(self._rows)


def left_of(rows, node):
    """What is left of some rows that a stop leaves: none behind the newest event of the node."""
    newest = newest_in(rows, node)
    left = []
    for event in rows:
        left.append(event)
        if event[0] == newest:
            return tuple(left)
    return ()


def first_line(node):
    """The first line of the text of a node's journal."""
    return f"node {node}"


def row_line(event):
    """The line of a row: the octets of the event, two signs for each, and their check."""
    octets = encode_event(event)
    signs = [SIGNS[octet // 16] + SIGNS[octet & 15] for octet in octets]
    check = sum([place * octet for place, octet in enumerate(octets, start=1)]) % CHECK
    return "".join(signs) + f" {check}"


def read_node(line):
    """The node of which a journal's text begins with this line, None if there is none."""
    for node in range(LAST_NODE + 1):
        if line == first_line(node):
            return node
    return None


def read_row(line):
    """The event of which this is the line of a row, None if there is none."""
    signs = line.partition(" ")[0]
    if len(signs) & 1 == 1:
        return None
    octets = [16 * SIGNS.find(signs[at]) + SIGNS.find(signs[at + 1]) for at in range(0, len(signs), 2)]
    try:
        event = decode_event(octets)
    except BadOctets:
        return None
    # One event has one line: other signs, or another check, are told apart by this.
    return event if row_line(event) == line else None


def take_line(journal, line):
    """Writes the row of a line to a journal; whether this could be done."""
    event = read_row(line)
    if event is None:
        return False
    try:
        journal.write(event)
    except Refused:
        return False
    return True


def read_journal(text):
    """What a stop that leaves all rows leaves of the journal of which a value is the text; otherwise raises BadText."""
    if not isinstance(text, str):
        raise BadText(-1)
    lines = text.split("\n")[:-1]
    if lines == []:
        return ()
    node = read_node(lines[0])
    if node is None:
        raise BadText(0)
    journal = Journal(node)
    for at, line in enumerate(lines[1:], start=1):
        if not take_line(journal, line):
            raise BadText(at)
    return left_of(journal.rows(), node)

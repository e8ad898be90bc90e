"""The words of lines told by hand, for comparison with what a desk says."""


def term(one):
    return ".".join(map(str, one)) if one else "root"


def fraction(one):
    return str(one[0]) + ("" if one[1] == 1 else "/" + str(one[1]))


def entry(one):
    if one is None:
        return "none"
    if one[0] == "page":
        return " ".join(["page", str(one[1])] + [label + " " + entry(first) for label, first in one[2]])
    return one[0] + " " + (str(one[1]) if one[0] == "value" else ".".join(one[1]))


def answer(one):
    (what, *rest), names = one
    words = [what]
    if what == "value":
        words.append(str(rest[0]))
    if what == "page":
        words += [str(rest[0]), term(rest[1])]
    return " ".join(words + [".".join(name) for name in names])


def deed(one):
    """The words of a letter or a telling."""
    if one[0] == "send":
        return f"send {one[1]}"
    return f"tell {'.'.join(one[1])} {one[2]} {answer(one[3])}"


def line(event):
    """The line of an event."""
    event_id, reading, (kind, *parts) = event
    words = [kind, term(event_id), fraction(reading)]
    if kind == "start":
        words.append("none" if parts[0] is None else term(parts[0]))
    elif kind == "send":
        words.append(str(parts[0]))
    elif kind in ("hear", "swear"):
        words.append(term(parts[0]))
    elif kind == "put":
        words += [term(parts[0]), parts[1], entry(parts[2])]
    elif kind == "give":
        words += [term(parts[0]), parts[1], fraction(parts[2]), str(parts[3])]
    elif kind in ("pass", "hand"):
        words += [term(parts[0]), str(parts[1])]
    elif kind == "tell":
        words += [".".join(parts[0]), str(parts[1]), answer(parts[2])]
    elif kind == "ask":
        words += [".".join(parts[0]), str(parts[1])]
    return " ".join(words)


def roster(pairs):
    return " ".join(["roster"] + [f"{a}-{b}" for a, b in pairs])

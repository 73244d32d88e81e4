"""Plain data and logs of worksheets, written and read."""

from branchsheets.demands import demand
from branchsheets.errors import NoText
from branchsheets.replies import defined_by, is_right, Reply
from branchsheets.smallwords import is_small_word
from branchsheets.whole import integer_text, is_integer, read_integer

LONGEST_LABEL = 12
DEEPEST = 60


def _is_label(value):
    return is_small_word(value, LONGEST_LABEL)


def _written(data, depth):
    """The written form of data in which tuples are nested at most so deep."""
    if is_integer(data):
        return integer_text(data)
    if _is_label(data):
        return data
    demand(isinstance(data, tuple) and depth > 0, "plain data")
    return "(" + " ".join([_written(item, depth - 1) for item in data]) + ")"


def write_data(data):
    """The written form of plain data."""
    return _written(data, DEEPEST)


def _read_tokens(tokens):
    """The data that parentheses, labels and integers in a row make up."""
    held = [[]]
    for token in tokens:
        if token == "(":
            held.append([])
            if len(held) > DEEPEST + 1:
                raise NoText(0)
        elif token == ")":
            items = tuple(held.pop())
            if not held:
                raise NoText(0)
            held[-1].append(items)
        elif token != "":
            held[-1].append(token if _is_label(token) else read_integer(token))
    if len(held[0]) != 1:
        raise NoText(0)
    return held[0][0]


def read_data(text):
    """The plain data with this written form; NoText(0) if there are none."""
    if not isinstance(text, str):
        raise NoText(0)
    data = _read_tokens(text.replace("(", "( ").replace(")", " )").split(" "))
    # The spaces, and what is still open at the end, have not been looked at.
    if write_data(data) != text:
        raise NoText(0)
    return data


def _is_one_line(value):
    return isinstance(value, str) and "\n" not in value


def _entry_text(entry):
    """The three lines of an entry."""
    demand(isinstance(entry, tuple) and len(entry) == 2, "entry")
    line, reply = entry
    demand(_is_one_line(line) and isinstance(reply, Reply), "entry")
    demand(_is_label(reply.kind) and _is_one_line(reply.text) and isinstance(reply.data, tuple), "reply")
    return f"> {line}\n= {reply.kind} {reply.text}\n# {write_data(reply.data)}\n"


def write_log(entries):
    """The written form of a list of entries."""
    return "".join([_entry_text(entry) for entry in entries])


def _read_reply_line(line):
    """The kind and the text of the second line of an entry."""
    kind, space, text = line[2:].partition(" ")
    if not (line.startswith("= ") and _is_label(kind) and space == " "):
        raise NoText(0)
    return (kind, text)


def _read_data_line(line):
    """The data of the third line of an entry."""
    data = read_data(line[2:])
    if not (line.startswith("# ") and isinstance(data, tuple)):
        raise NoText(0)
    return data


def _read_line_at(line, place):
    """What a line tells that is the first, second or third one of an entry."""
    if place == 1:
        return _read_reply_line(line)
    if place == 2:
        return _read_data_line(line)
    if not line.startswith("> "):
        raise NoText(0)
    return line[2:]


def read_log(text):
    """The list of entries with this written form; NoText(at) with the number of the first wrong line."""
    if not isinstance(text, str):
        raise NoText(0)
    lines = text.split("\n")
    told = []
    for at, line in enumerate(lines[:-1]):
        try:
            told.append(_read_line_at(line, at % 3))
        except NoText:
            raise NoText(at) from None
    # Behind the last line feed nothing may stand.
    if lines[-1] != "" or len(told) % 3 != 0:
        raise NoText(len(told))
    rows = [told[at:at + 3] for at in range(0, len(told), 3)]
    return [(line, Reply(kind, said, data)) for line, (kind, said), data in rows]


def first_wrong(entries):
    """The index of the first item of a list that is no right entry, or -1."""
    names = {}
    for at, entry in enumerate(entries):
        if not is_right(names, entry):
            return at
        defined = defined_by(names, entry[0])
        if defined is not None:
            names[defined[0]] = defined[1]
    return -1

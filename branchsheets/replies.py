"""Replies to the lines of a worksheet, and whether they are right."""

from branchsheets.errors import Fault, Malformed, NoText, Refused
from branchsheets.sheet import is_defining, read_line, signs_of
from branchsheets.sheetpapers import made_paper, paper_text, takes_paper
from branchsheets.sheetwork import made_system, number_text
from branchsheets.systems import datum_of
from branchsheets.whole import integer_text

PLAIN_KINDS = ("done", "error", "system", "datum", "number")


class Reply:
    """A reply: its kind, a text, and data, a tuple."""

    def __init__(self, kind, text="", data=()):
        self.kind = kind
        self.text = text
        self.data = data

    def __eq__(self, other):
        if not isinstance(other, Reply):
            return False
        return self.kind == other.kind and self.text == other.text and self.data == other.data


def _list_text(row):
    return ",".join([integer_text(n) for n in row]) if row else "-"


def _lists_text(rows):
    return " ".join([_list_text(row) for row in rows])


def _system_text(S):
    return " ".join([integer_text(S[0])] + [_list_text(p) for p in S[1]])


def _items_of(names, command):
    """The items of a command but the name that it defines, with systems in the place of the names that it uses."""
    items = []
    for sign, item in zip(signs_of(command[0]), command[1:]):
        if sign == "A":
            if item not in names:
                raise Refused("name")
            items.append(names[item])
        elif sign != "N":
            items.append(item)
    return tuple(items)


def _reply_of(names, command):
    """The reply to a command; raises the errors that it leads to."""
    word = command[0]
    if word == "empty":
        return Reply("done")
    items = _items_of(names, command)
    if is_defining(word):
        return Reply("system", _system_text(made_system(word, items)))
    if word == "show":
        return Reply("system", _system_text(items[0]))
    if word == "datum":
        return Reply("datum", _lists_text(datum_of(items[0])))
    number = number_text(word, items)
    if number is not None:
        return Reply("number", number)
    paper = made_paper(word, items)
    return Reply(word, paper_text(word, paper), paper)


def reply_to(names, line):
    """The reply to a line over a dict of definitions."""
    try:
        return _reply_of(names, read_line(line))
    except NoText:
        return Reply("error", "text")
    except Malformed:
        return Reply("error", "malformed")
    except Refused as e:
        return Reply("error", "refused " + e.reason)


def defined_by(names, line):
    """The pair of the name and the system that a line defines, or None."""
    try:
        command = read_line(line)
        if is_defining(command[0]):
            return (command[1], made_system(command[0], _items_of(names, command)))
        return None
    except Fault:
        return None


def is_right(names, entry):
    """True if an entry, a pair of a line and a reply, is right over a dict of definitions."""
    if not (isinstance(entry, tuple) and len(entry) == 2 and isinstance(entry[1], Reply)):
        return False
    line, reply = entry
    told = reply_to(names, line)
    if told.kind in PLAIN_KINDS:
        return reply == told
    command = read_line(line)
    if reply.kind != told.kind or not takes_paper(command[0], _items_of(names, command), reply.data):
        return False
    return reply.text == paper_text(command[0], reply.data)

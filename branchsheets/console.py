"""A console, into which the lines of a worksheet are entered."""

from branchsheets.demands import demand_within
from branchsheets.log import write_log
from branchsheets.replies import defined_by, reply_to


class Console:
    """Definitions and entries; at most so many lines are taken as was told when it was made."""

    def __init__(self, *, most=300):
        self._most = most
        self._names = {}
        self._entries = []

    def enter(self, line):
        """The reply to a line, which is added to the entries."""
        demand_within(len(self._entries) + 1, self._most, "lines")
        reply = reply_to(self._names, line)
        defined = defined_by(self._names, line)
        if defined is not None:
            self._names[defined[0]] = defined[1]
        self._entries.append((line, reply))
        return reply

    def __len__(self):
        return len(self._entries)

    def __iter__(self):
        return iter(self._entries)

    def names(self):
        """A new dict from the defined names to their systems."""
        return dict(self._names)

    def log(self):
        """The written form of the log."""
        return write_log(self._entries)

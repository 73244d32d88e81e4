"""What the functions of the program ask of their arguments."""

from branchsheets.errors import Malformed
from branchsheets.errors import Refused


def demand(holds, what):
    """Raises Malformed, with the name of what was asked, if it does not hold."""
    if not holds:
        raise Malformed(f"no {what}")


def demand_within(many, most, reason):
    """Raises Refused if a number is above the most that is taken."""
    if many > most:
        raise Refused(reason)

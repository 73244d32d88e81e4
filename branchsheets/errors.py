"""The errors that the program raises."""


class Fault(ValueError):
    """The base class of all errors of the program."""


class Malformed(Fault):
    """A value has not the form that is told."""


class Refused(Fault):
    """The arguments have their form, but the function does not take them."""

    def __init__(self, reason):
        self.reason = reason


class NoText(Fault):
    """A text is no written form; `at` is the place where it is none."""

    def __init__(self, at):
        self.at = at

"""The errors that this package raises."""


class PlanError(ValueError):
    """What all errors of this package are."""


class InvalidStore(PlanError):
    """What was told makes no store."""

    def __init__(self, at):
        self.at = at


class InvalidState(PlanError):
    """A value is no allowed state."""

    def __init__(self, at):
        self.at = at


class InvalidLot(PlanError):
    """A value is no lot of keys, no key, or no tying."""

    def __init__(self, at):
        self.at = at


class InvalidQuestion(PlanError):
    """A value is no question."""

    def __init__(self, at):
        self.at = at


class InvalidText(PlanError):
    """A text is not that of a store."""

    def __init__(self, at):
        self.at = at


class Refused(PlanError):
    """What was passed is in order, but what is asked for is not there."""

    def __init__(self, at):
        self.at = at


class InvalidCommand(PlanError):
    """A command is none, or cannot be done now."""

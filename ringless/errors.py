"""Every refusal of the package."""

MOST_DEEP = 100


def kept(thing, deep=MOST_DEEP):
    """The thing, its lists and dicts copied."""
    # An error outlives the call, so it must not change with a list of the caller's.
    # Deeper than this the parts stay the caller's: a refusal may not fail on Python's bound for calls.
    if deep == 0:
        return thing
    if isinstance(thing, list):
        return [kept(part, deep - 1) for part in thing]
    if isinstance(thing, tuple):
        return tuple([kept(part, deep - 1) for part in thing])
    if isinstance(thing, dict):
        return {key: kept(thing[key], deep - 1) for key in thing}
    return thing


class RingError(ValueError):
    """What all refusals are."""


class BadNet(RingError):
    """What was handed in makes no net."""


class NoText(RingError):
    """A row of a text, counted from 0, is no row of a net's text."""

    def __init__(self, row):
        super().__init__(f"row {row} is no row of a net")
        self.row = row


# NoHall, NoLink and NoHouse are handed anything. Their messages leave it out:
# a very long number or a very deep list can't be shown.


class NoHall(RingError):
    """No hall, or none that the link joins."""

    def __init__(self, number):
        super().__init__("no such hall")
        self.number = kept(number)


class NoLink(RingError):
    """No link."""

    def __init__(self, number):
        super().__init__("no such link")
        self.number = kept(number)


class NoLetter(RingError):
    """No letter comes to the hall by the link."""

    def __init__(self, link, hall):
        super().__init__(f"no letter comes by link {link} to hall {hall}")
        self.link = link
        self.hall = hall


class NoDeed(RingError):
    """An item of a list, counted from 0, is no deed."""

    def __init__(self, at):
        super().__init__(f"item {at} is no deed")
        self.at = at


class Cut(RingError):
    """The link is cut."""

    def __init__(self, number):
        super().__init__(f"link {number} is cut")
        self.number = number


class Runs(RingError):
    """The link runs."""

    def __init__(self, number):
        super().__init__(f"link {number} runs")
        self.number = number


class Stopped(RingError):
    """The hall is stopped."""

    def __init__(self, number):
        super().__init__(f"hall {number} is stopped")
        self.number = number


class Stands(RingError):
    """The hall stands."""

    def __init__(self, number):
        super().__init__(f"hall {number} stands")
        self.number = number


class TooLong(RingError):
    """More would be needed than is allowed."""


class NoRule(RingError):
    """No rule, or none that may stand here."""


class NoHouse(RingError):
    """No house that lives in a hall."""

    def __init__(self, name):
        super().__init__("no such house")
        self.name = kept(name)


class BadHouse(RingError):
    """No name for a house, or one that may not stand here."""


class BadLog(RingError):
    """A row of a log, counted from 0, is wrong."""

    def __init__(self, row):
        super().__init__(f"row {row} of the log is wrong")
        self.row = row

"""Letters: what halls write to one another."""


class Letter:
    """What all letters are."""


class Say(Letter):
    """A hall says its standing; the number tells which of its sayings at this door it is."""

    def __init__(self, number, root, far):
        self.number = number
        self.root = root
        self.far = far

    def __eq__(self, other):
        return (
            isinstance(other, Say)
            and self.number == other.number
            and self.root == other.root
            and self.far == other.far
        )

    def told(self):
        """The letter as a tuple."""
        return ("say", self.number, self.root, self.far)


class Agree(Letter):
    """A hall agrees to the saying of this number."""

    def __init__(self, number):
        self.number = number

    def __eq__(self, other):
        return isinstance(other, Agree) and self.number == other.number

    def told(self):
        """The letter as a tuple."""
        return ("agree", self.number)

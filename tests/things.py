"""What several of the tests use."""

import unittest

# What is no number of a hall or of a link, whatever the net.
NO_NUMBERS = [
    True,
    False,
    None,
    "",
    "0",
    "7",
    [],
    [7],
    [0, [1, {"a": (2, [3])}]],
    (),
    (7,),
    ([7], {7: [8]}),
    {},
    {7: 0},
    {(1, 2): [None]},
]


def nested(deep):
    """A list in a list in a list .."""
    thing = []
    for _ in range(deep):
        thing = [thing]
    return thing


class Dice:
    """Numbers that look thrown, the same ones in each run."""

    def __init__(self, seed):
        self.now = seed * 7919 + 12345

    def roll(self, many):
        """A number from 0 to many - 1."""
        self.now = (self.now * 6364136223846793005 + 1442695040888963407) % 2**64
        return (self.now >> 33) % many

    def pick(self, things):
        return things[self.roll(len(things))]

    def some(self, things, many):
        """As many of the things, none twice, in whatever order."""
        left = list(things)
        return [left.pop(self.roll(len(left))) for _ in range(many)]


def told(thing):
    """A thing with its kind: True is 1, but they are told apart here."""
    return type(thing).__name__, thing


class Case(unittest.TestCase):
    def refused(self, error, call, *args, **more):
        """The error's own attributes, of a call that must be refused by just this class."""
        with self.assertRaises(error) as caught:
            call(*args, **more)
        self.assertIs(type(caught.exception), error)
        return vars(caught.exception)

    def refused_number(self, error, number, call, *args, **more):
        """The call is refused, and the error has the number that was handed in."""
        found = self.refused(error, call, *args, **more)
        self.assertEqual(list(found), ["number"])
        self.assertEqual(told(found["number"]), told(number))

import unittest

from ringless import errors
from things import NO_NUMBERS, Case, nested, told

# Each error with what stands in its parentheses.
ERRORS = {
    "BadNet": [],
    "NoText": ["row"],
    "NoHall": ["number"],
    "NoLink": ["number"],
    "NoLetter": ["link", "hall"],
    "NoDeed": ["at"],
    "Cut": ["number"],
    "Runs": ["number"],
    "Stopped": ["number"],
    "Stands": ["number"],
    "TooLong": [],
    "NoRule": [],
    "NoHouse": ["name"],
    "BadHouse": [],
    "BadLog": ["row"],
}
OF_ANYTHING = ["NoHall", "NoLink", "NoHouse"]


class Family(Case):
    def test_ring_error_is_a_value_error(self):
        self.assertEqual(errors.RingError.__bases__, (ValueError,))

    def test_each_stands_right_under_ring_error(self):
        for name in ERRORS:
            with self.subTest(name):
                self.assertEqual(getattr(errors, name).__bases__, (errors.RingError,))

    def test_there_are_no_others(self):
        found = [
            name
            for name, thing in vars(errors).items()
            if isinstance(thing, type) and thing is not errors.RingError
        ]
        self.assertEqual(sorted(found), sorted(ERRORS))


class Attributes(Case):
    def test_by_place(self):
        for name, words in ERRORS.items():
            with self.subTest(name):
                error = getattr(errors, name)(*range(3, 3 + len(words)))
                self.assertEqual(vars(error), dict(zip(words, range(3, 9))))

    def test_by_name(self):
        for name, words in ERRORS.items():
            with self.subTest(name):
                given = {word: 5 + at for at, word in enumerate(words)}
                self.assertEqual(vars(getattr(errors, name)(**given)), given)

    def test_as_many_as_are_told(self):
        for name, words in ERRORS.items():
            if words:
                with self.subTest(name):
                    self.assertRaises(TypeError, getattr(errors, name), *range(len(words) - 1))
                    self.assertRaises(TypeError, getattr(errors, name), *range(len(words) + 1))

    def test_messages_can_be_shown(self):
        for name, words in ERRORS.items():
            with self.subTest(name):
                self.assertIsInstance(str(getattr(errors, name)(*range(len(words)))), str)


class Anything(Case):
    def attribute(self, name, thing):
        return getattr(getattr(errors, name)(thing), ERRORS[name][0])

    def test_what_was_handed_in_is_told(self):
        for name in OF_ANYTHING:
            for thing in NO_NUMBERS + [-1, 10**30]:
                with self.subTest(name, thing=thing):
                    self.assertEqual(told(self.attribute(name, thing)), told(thing))

    def test_nothing_hangs_on_it(self):
        for name in OF_ANYTHING:
            with self.subTest(name):
                inner = [1]
                thing = [inner, {"a": inner}, (inner,)]
                found = self.attribute(name, thing)
                inner.append(2)
                thing[1]["b"] = 3
                thing.append(4)
                self.assertEqual(found, [[1], {"a": [1]}, ([1],)])

    def test_it_stays(self):
        for name in OF_ANYTHING:
            with self.subTest(name):
                thing = [[1], {"a": [1]}]
                found = self.attribute(name, thing)
                found[0].append(2)
                found[1]["a"].append(2)
                self.assertEqual(thing, [[1], {"a": [1]}])

    def test_what_can_not_be_shown_is_told_too(self):
        round_list = []
        round_list.append(round_list)
        for name in OF_ANYTHING:
            for thing in (10**9999, nested(100000), round_list):
                with self.subTest(name):
                    error = getattr(errors, name)(thing)
                    self.assertIsInstance(str(error), str)
                    self.assertIs(type(self.attribute(name, thing)), type(thing))


if __name__ == "__main__":
    unittest.main()

import unittest

from ringless.letters import Agree, Letter, Say
from things import NO_NUMBERS, Case, nested


class Telling(Case):
    def test_what_a_say_tells(self):
        letter = Say(4, 7, 12)
        self.assertEqual(letter.told(), ("say", 4, 7, 12))
        self.assertIs(type(letter.told()), tuple)
        self.assertEqual((letter.number, letter.root, letter.far), (4, 7, 12))

    def test_what_an_agree_tells(self):
        letter = Agree(4)
        self.assertEqual(letter.told(), ("agree", 4))
        self.assertIs(type(letter.told()), tuple)
        self.assertEqual(letter.number, 4)

    def test_by_name(self):
        self.assertEqual(Say(far=12, number=4, root=7).told(), ("say", 4, 7, 12))
        self.assertEqual(Say(4, far=12, root=7).told(), ("say", 4, 7, 12))
        self.assertEqual(Agree(number=4).told(), ("agree", 4))

    def test_edges(self):
        self.assertEqual(Say(1, 0, 0).told(), ("say", 1, 0, 0))
        self.assertEqual(Say(10**6, 999, 360).told(), ("say", 10**6, 999, 360))
        self.assertEqual(Agree(0).told(), ("agree", 0))

    def test_as_many_things_as_are_told(self):
        for call, things in ((Say, (1, 2)), (Say, (1, 2, 3, 4)), (Agree, ()), (Agree, (1, 2))):
            self.assertRaises(TypeError, call, *things)

    def test_asked_again(self):
        for letter in (Say(4, 7, 12), Agree(4)):
            self.assertEqual(letter.told(), letter.told())


class Family(Case):
    def test_both_are_letters(self):
        self.assertEqual((Say.__bases__, Agree.__bases__), ((Letter,), (Letter,)))
        self.assertIsInstance(Say(1, 2, 3), Letter)
        self.assertIsInstance(Agree(1), Letter)

    def test_each_has_what_is_its_own(self):
        for kind in (Say, Agree):
            for name in ("__init__", "__eq__", "told"):
                self.assertIn(name, vars(kind))


class Sameness(Case):
    def assert_same(self, one, other, same):
        with self.subTest():
            self.assertIs(one == other, same)
            self.assertIs(other == one, same)
            self.assertIs(one != other, not same)
            self.assertIs(other != one, not same)

    def test_equal_just_where_they_tell_the_same(self):
        says = [Say(number, root, far) for number in (1, 2) for root in (1, 2, 7) for far in (0, 1, 2)]
        letters = says + [Agree(number) for number in (0, 1, 2, 7)]
        for one in letters:
            for other in letters:
                self.assert_same(one, other, one is other)

    def test_alike(self):
        self.assert_same(Say(3, 7, 12), Say(far=12, root=7, number=3), True)
        self.assert_same(Say(10**30, 7, 12), Say(10**30, 7, 12), True)
        self.assert_same(Agree(3), Agree(number=3), True)

    def test_a_say_and_an_agree(self):
        self.assert_same(Say(3, 3, 3), Agree(3), False)

    def test_equal_to_nothing_else(self):
        things = [3, 0, ("say", 3, 7, 12), ["say", 3, 7, 12], ("agree", 3), "agree", (3, 7, 12), nested(5000)]
        for letter in (Say(3, 7, 12), Agree(3), Agree(0)):
            for thing in NO_NUMBERS + things + [Letter(), object(), Say, Agree]:
                self.assert_same(letter, thing, False)

    def test_in_lists(self):
        self.assertEqual([Say(1, 2, 3), Agree(1)], [Say(1, 2, 3), Agree(1)])
        self.assertNotEqual([Say(1, 2, 3), Agree(1)], [Agree(1), Say(1, 2, 3)])
        self.assertIn(Agree(2), [Say(2, 2, 2), Agree(2)])


if __name__ == "__main__":
    unittest.main()

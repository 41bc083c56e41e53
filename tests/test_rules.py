import unittest

from ringless.errors import NoRule
from ringless.rules import RIGHT, RULES, check_rule
from things import NO_NUMBERS, Case, nested

WRONG = ("hasty", "worse", "turned", "free", "kept")


class Names(Case):
    def test_right(self):
        self.assertEqual(RIGHT, "right")

    def test_all_six_right_first(self):
        self.assertIs(type(RULES), tuple)
        self.assertEqual(RULES[0], RIGHT)
        self.assertEqual(RULES, (RIGHT, *WRONG))


class Checks(Case):
    def test_each_rule_is_one(self):
        for rule in RULES:
            self.assertIsNone(check_rule(rule))

    def test_none_of_anything_else(self):
        texts = ["", " ", "Right", "RIGHT", "right ", " right", "righ", "rights", "wrong", "hasty\n", "hasty worse"]
        things = [0, 1, 5, list(RULES), RULES, ["right"], ("right",), {"right": 1}, b"right", nested(5000)]
        for thing in NO_NUMBERS + texts + things:
            with self.subTest():
                self.assertEqual(self.refused(NoRule, check_rule, thing), {})


if __name__ == "__main__":
    unittest.main()

import unittest

from plain import all_looks, is_done, settled_by, some_deed, some_net, weave_looks
from ringless.dues import due
from ringless.errors import TooLong
from ringless.nets import Net
from ringless.rules import RULES
from ringless.settling import is_settled, settled
from ringless.weaves import Weave
from things import Case, Dice

NET = Net([7, 3, 9, 5], [(7, 3, 2), (5, 7, 1), (3, 7, 4)])


def disturbed(dice, net, many, rule="right"):
    """A weave behind deeds of all kinds."""
    weave = Weave(net, rule=rule)
    for _ in range(many):
        is_done(weave, some_deed(dice, net, weave.waiting()))
    return weave


class Settling(Case):
    def assert_due(self, weave):
        net = weave.net()
        paper = due(net, cut=weave.cuts(), away=weave.away())
        self.assertTrue(is_settled(weave))
        self.assertEqual(weave.letters(), {})
        self.assertEqual(weave.standings(), {hall: row[:2] for hall, row in paper.items()})
        roots = {(row[2], hall) for hall, row in paper.items() if row[2] is not None}
        roles = weave.roles()
        self.assertEqual({door for door, role in roles.items() if role == "root"}, roots)
        self.assertEqual(weave.open_links(), sorted(link for link, _ in roots))
        for link, hall in roots:
            beyond = (link, net.beyond(link, hall))
            self.assertEqual((roles[beyond], beyond in weave.open_doors()), ("leads", True))

    def test_a_new_weave(self):
        weave = Weave(NET)
        self.assertIs(is_settled(weave), False)
        many = settled(weave)
        self.assertIs(is_settled(weave), True)
        self.assertEqual(many, len(weave.log()))
        self.assertEqual(weave.standings(), {3: (3, 0), 5: (3, 3), 7: (3, 2), 9: (9, 0)})
        self.assertEqual(weave.open_links(), [0, 1])
        self.assert_due(weave)

    def test_no_letters(self):
        for net in (Net([4], []), Net([4, 5], [])):
            weave = Weave(net)
            self.assertTrue(is_settled(weave))
            self.assertEqual((settled(weave), settled(weave, most=0), settled(weave, schedule=[3, 1])), (0, 0, 0))
            self.assert_due(weave)

    def test_settled_once_more(self):
        weave = Weave(NET)
        settled(weave)
        ahead = all_looks(weave)
        self.assertEqual(settled(weave, schedule=[1, 2, 3], most=0), 0)
        self.assertEqual(all_looks(weave), ahead)

    def test_letters_are_taken_by_the_weave_itself(self):
        weave = Weave(NET)
        weave.do([("cut", 1), ("take", 0, 7)])
        many = settled(weave)
        log = weave.log()
        self.assertEqual(log[:2], [("cut", 1), ("take", 0, 7)])
        self.assertEqual({deed[0] for deed in log[2:]}, {"take"})
        self.assertEqual(len(log), 2 + many)
        self.assertEqual(weave.notes(), [("begin", 2), ("end", True)])
        self.assert_due(weave)

    def test_the_first_one_without_a_schedule(self):
        for schedule in ((), [], [0], [0] * 500):
            weave, other = Weave(NET), Weave(NET)
            doors = settled_by(other, [])
            self.assertEqual(settled(weave, schedule=schedule), len(doors))
            self.assertEqual(all_looks(weave), all_looks(other))

    def test_by_its_schedule_and_the_first_one_where_it_is_over(self):
        for schedule in ([1], (3,), [5, 5, 5], [6], [7, 6], list(range(9)), (10**40, 1, 0, 2), [13] * 3000):
            weave, other = Weave(NET), Weave(NET)
            doors = settled_by(other, schedule)
            self.assertEqual(settled(weave, schedule=schedule), len(doors))
            self.assertEqual(weave.log(), [("take", *door) for door in doors])
            self.assertEqual(all_looks(weave), all_looks(other))
            self.assert_due(weave)

    def test_places_by_hand(self):
        # Six doors wait at first: (0, 3), (0, 7), (1, 5), (1, 7), (2, 3), (2, 7).
        for number, door in ((0, (0, 3)), (1, (0, 7)), (5, (2, 7)), (6, (0, 3)), (9, (1, 7)), (600, (0, 3))):
            weave = Weave(NET)
            settled(weave, schedule=[number])
            self.assertEqual(weave.log()[0], ("take", *door))

    def test_what_is_handed_in_stays(self):
        schedule = [5, 4, 3]
        settled(Weave(NET), schedule=schedule)
        self.assertEqual(schedule, [5, 4, 3])

    def test_by_name_alone(self):
        self.assertRaises(TypeError, settled, Weave(NET), [1])
        self.assertGreater(settled(weave=Weave(NET), most=4000, schedule=()), 0)
        self.assertTrue(is_settled(weave=Weave(Net([1], []))))

    def test_in_whatever_order_at_the_one_due_tree(self):
        for seed in range(60):
            dice = Dice(seed)
            weave = disturbed(dice, some_net(dice), 60)
            many = len(weave.log())
            told = settled(weave, schedule=[dice.roll(40) for _ in range(dice.roll(300))])
            self.assertEqual(told, len(weave.log()) - many)
            self.assert_due(weave)

    def test_many_orders_of_one_weave(self):
        dice = Dice(5)
        links = [(4, 2, 3), (2, 8, 1), (8, 6, 2), (6, 4, 1), (4, 2, 3), (2, 6, 9)]
        elder = disturbed(dice, Net([4, 2, 8, 6], links), 40)
        ends = set()
        for seed in range(40):
            dice = Dice(seed)
            weave = elder.twin()
            settled(weave, schedule=[dice.roll(12) for _ in range(200)])
            self.assert_due(weave)
            ends.add(str(weave_looks(weave)))
        self.assertEqual(len(ends), 1)

    def test_wrong_rules_settle_too(self):
        for rule in RULES[1:]:
            for seed in range(10):
                dice = Dice(seed)
                weave, other = [disturbed(Dice(seed), NET, 30, rule) for _ in range(2)]
                schedule = [dice.roll(9) for _ in range(20)]
                doors = settled_by(other, schedule)
                self.assertEqual(settled(weave, schedule=schedule), len(doors))
                self.assertEqual(all_looks(weave), all_looks(other))


class Bounds(Case):
    def test_just_met_and_one_below(self):
        for seed in range(20):
            dice = Dice(seed)
            elder = disturbed(dice, some_net(dice), 30)
            schedule = [dice.roll(20) for _ in range(10)]
            many = settled(elder.twin(), schedule=schedule)
            weave = elder.twin()
            self.assertEqual(settled(weave, schedule=schedule, most=many), many)
            if many:
                weave = elder.twin()
                ahead = all_looks(weave)
                for most in {many - 1, many // 2, 0}:
                    self.assertEqual(self.refused(TooLong, settled, weave, schedule=schedule, most=most), {})
                    self.assertEqual(all_looks(weave), ahead)
                self.assertEqual(settled(weave, schedule=schedule, most=many + 1), many)

    def test_nought(self):
        weave = Weave(NET)
        self.refused(TooLong, settled, weave, most=0)
        self.assertEqual(all_looks(weave), all_looks(Weave(NET)))

    def test_the_most_where_none_is_told(self):
        # Twelve links of the same two halls: many letters, but fewer than 4000.
        weave = Weave(Net([1, 2], [(1, 2, 30)] * 12))
        self.assertLess(settled(weave), 4000)


if __name__ == "__main__":
    unittest.main()

import unittest

from plain import PlainHall, hall_looks
from ringless.errors import Cut, NoLink, NoRule, Runs
from ringless.halls import MOST, Hall
from ringless.letters import Agree, Say
from ringless.rules import RIGHT, RULES
from things import NO_NUMBERS, Case, Dice, nested

# Of hall 7: two links to hall 12, one to hall 3, one to hall 40.
DOORS = {0: (12, 3), 1: (3, 5), 4: (40, 1), 9: (12, 1)}
WRONG = ("hasty", "worse", "turned", "free", "kept")


def told(posts):
    """Posts with their letters told."""
    return [(link, letter.told()) for link, letter in posts]


def letter_of(row):
    return Say(*row[1:]) if row[0] == "say" else Agree(*row[1:])


class HallCase(Case):
    def assert_looks(self, hall, standing, root_link, doors):
        """doors: from links to (role, whether open, heard)."""
        self.assertEqual(hall_looks(hall, doors), (standing, root_link, doors))

    def assert_posts(self, posts, rows):
        self.assertIs(type(posts), list)
        self.assertEqual(told(posts), rows)

    def led(self, hall, *rows):
        """The posts of the last of some letters, (link, number, root, far) or (link, number)."""
        posts = hall.posted()
        for link, *things in rows:
            posts = hall.take(link, Say(*things) if len(things) == 3 else Agree(*things))
        return told(posts)


class Starting(HallCase):
    def test_all_doors_run_and_lead_closed(self):
        hall = Hall(7, dict(DOORS))
        self.assert_posts(hall.posted(), [(link, ("say", 1, 7, 0)) for link in (0, 1, 4, 9)])
        self.assert_looks(hall, (7, 0), None, {link: ("leads", False, None) for link in DOORS})

    def test_doors_in_whatever_order(self):
        hall = Hall(7, {link: DOORS[link] for link in (9, 1, 0, 4)})
        self.assert_posts(hall.posted(), [(link, ("say", 1, 7, 0)) for link in (0, 1, 4, 9)])
        self.assertEqual([link for link, _ in hall.take(9, Say(1, 2, 0))], [0, 1, 4, 9, 9])

    def test_no_doors(self):
        hall = Hall(7, {})
        self.assert_posts(hall.posted(), [])
        self.assert_looks(hall, (7, 0), None, {})

    def test_some_are_cut(self):
        for cut in ([4, 0], (0, 4), [0, 4, 4], (4, 0, 77, -1, 10**40)):
            hall = Hall(7, DOORS, cut=cut)
            self.assert_posts(hall.posted(), [(1, ("say", 1, 7, 0)), (9, ("say", 1, 7, 0))])
            apart = {link: ("cut", False, None) for link in (0, 4)}
            self.assert_looks(hall, (7, 0), None, {**apart, **{link: ("leads", False, None) for link in (1, 9)}})

    def test_all_are_cut(self):
        hall = Hall(7, DOORS, cut=list(DOORS))
        self.assert_posts(hall.posted(), [])
        self.assert_looks(hall, (7, 0), None, {link: ("cut", False, None) for link in DOORS})

    def test_others_in_cut_count_for_nothing(self):
        hall = Hall(7, DOORS, cut=[2, 3, 5])
        self.assertEqual(len(hall.posted()), 4)
        self.assertEqual([hall.role(link) for link in DOORS], ["leads"] * 4)

    def test_most(self):
        self.assertEqual(MOST, 360)
        hall = Hall(7, {0: (3, 30)})
        self.led(hall, (0, 1, 3, 330))
        self.assertEqual(hall.standing(), (3, 360))
        self.led(hall, (0, 2, 3, 331))
        self.assertEqual(hall.standing(), (7, 0))

    def test_arguments_by_name(self):
        hall = Hall(doors=DOORS, hall=7, rule=RIGHT, most=5, cut=(1,))
        self.assert_posts(hall.take(letter=Say(1, 3, 2), link=0), [
            (0, ("say", 2, 3, 5)),
            (0, ("agree", 1)),
            (4, ("say", 2, 3, 5)),
            (9, ("say", 2, 3, 5)),
        ])
        self.assertRaises(TypeError, Hall, 7, DOORS, ())
        self.assert_posts(hall.mend(link=1), [(1, ("say", 1, 3, 5))])
        hall.cut(link=1)
        self.assertEqual((hall.role(link=1), hall.is_open(link=0), hall.heard(link=0)), ("cut", True, (3, 2)))

    def test_posted_stays(self):
        hall = Hall(7, DOORS)
        posted = told(hall.posted())
        self.led(hall, (0, 1, 3, 3), (1, 1, 3, 0))
        hall.cut(1)
        self.assertEqual(told(hall.posted()), posted)


class Standing(HallCase):
    def standing(self, *rows, **more):
        hall = Hall(7, DOORS, **more)
        self.led(hall, *rows)
        return (*hall.standing(), hall.root_link())

    def test_its_own_where_nothing_less_is_heard(self):
        self.assertEqual(self.standing(), (7, 0, None))
        self.assertEqual(self.standing((0, 1, 12, 0), (1, 1, 8, 0)), (7, 0, None))
        self.assertEqual(self.standing((0, 1, 7, 0), (1, 1, 7, 3)), (7, 0, None))

    def test_the_least_root(self):
        self.assertEqual(self.standing((0, 1, 5, 0), (1, 1, 3, 40), (4, 1, 4, 0)), (3, 45, 1))

    def test_then_the_least_far_with_the_cost(self):
        self.assertEqual(self.standing((0, 1, 2, 5), (1, 1, 2, 4), (4, 1, 2, 6)), (2, 7, 4))
        self.assertEqual(self.standing((0, 1, 2, 5), (1, 1, 2, 2), (4, 1, 2, 7)), (2, 7, 1))

    def test_then_the_least_hall_beyond(self):
        self.assertEqual(self.standing((0, 1, 2, 5), (1, 1, 2, 3), (4, 1, 2, 7)), (2, 8, 1))
        self.assertEqual(self.standing((4, 1, 2, 7), (9, 1, 2, 7)), (2, 8, 9))

    def test_then_the_least_link(self):
        self.assertEqual(self.standing((0, 1, 2, 5), (9, 1, 2, 7)), (2, 8, 0))
        self.assertEqual(self.standing((9, 1, 2, 7), (0, 1, 2, 5)), (2, 8, 0))
        self.assertEqual(self.standing((0, 1, 2, 6), (9, 1, 2, 7)), (2, 8, 9))

    def test_what_was_heard_last(self):
        self.assertEqual(self.standing((1, 1, 3, 0), (1, 2, 3, 9)), (3, 14, 1))
        self.assertEqual(self.standing((1, 1, 3, 0), (0, 1, 3, 4), (1, 2, 3, 9)), (3, 7, 0))
        self.assertEqual(self.standing((1, 1, 3, 0), (1, 2, 8, 0)), (7, 0, None))

    def test_just_at_most_and_one_beyond(self):
        self.assertEqual(self.standing((0, 1, 3, 7), most=10), (3, 10, 0))
        self.assertEqual(self.standing((0, 1, 3, 8), most=10), (7, 0, None))
        self.assertEqual(self.standing((0, 1, 3, 8), (4, 1, 5, 9), most=10), (5, 10, 4))
        self.assertEqual(self.standing((0, 1, 3, 8), (4, 1, 5, 10), most=10), (7, 0, None))
        self.assertEqual(self.standing(most=0), (7, 0, None))


class Roles(HallCase):
    def role(self, *rows, **more):
        hall = Hall(7, DOORS, **more)
        self.led(hall, *rows)
        return [hall.role(link) for link in DOORS]

    def test_root_leads_and_beside(self):
        # At (3, 5): the doors of hall 12 hear less and more.
        self.assertEqual(self.role((1, 1, 3, 0), (0, 1, 3, 4), (9, 1, 3, 6)), ["beside", "root", "leads", "leads"])

    def test_by_the_root_heard(self):
        self.assertEqual(self.role((1, 1, 3, 0), (0, 1, 2, 400), (4, 1, 4, 0)), ["beside", "root", "leads", "leads"])

    def test_by_the_number_of_the_hall_beyond_where_all_else_is_alike(self):
        doors = {0: (6, 1), 1: (8, 1), 2: (3, 5)}
        for standing in ((3, 5), (7, 0)):
            hall = Hall(7, doors)
            if standing == (3, 5):
                hall.take(2, Say(1, 3, 0))
            hall.take(0, Say(1, *standing))
            hall.take(1, Say(1, *standing))
            self.assertEqual(hall.standing(), standing)
            self.assertEqual([hall.role(0), hall.role(1)], ["beside", "leads"])

    def test_what_is_heard_beyond_most_counts_for_the_role(self):
        self.assertEqual(self.role((0, 1, 3, 10), (1, 1, 8, 11), most=10), ["beside", "leads", "leads", "leads"])
        self.assertEqual(self.role((0, 1, 3, 99), (9, 1, 3, 98), most=10), ["beside", "leads", "leads", "beside"])

    def test_a_hall_beyond_that_stands_by_this_one(self):
        self.assertEqual(self.role((0, 1, 7, 3), (9, 1, 7, 3)), ["leads"] * 4)

    def test_a_door_may_be_beside_at_a_hall_that_is_its_own_root(self):
        hall = Hall(7, {0: (12, 3)}, most=10)
        self.led(hall, (0, 1, 3, 10))
        self.assert_looks(hall, (7, 0), None, {0: ("beside", False, (3, 10))})


class Opening(HallCase):
    def test_root_is_open_beside_is_closed(self):
        hall = Hall(7, DOORS)
        self.led(hall, (1, 1, 3, 0), (0, 1, 3, 4))
        self.assertEqual([hall.is_open(link) for link in DOORS], [False, True, False, False])

    def test_leads_is_open_from_the_agree_on(self):
        hall = Hall(7, DOORS)
        self.assertEqual(self.led(hall, (4, 1)), [])
        self.assertEqual([hall.is_open(link) for link in DOORS], [False, False, True, False])

    def test_a_door_beside_stays_closed_whatever_was_agreed_to(self):
        hall = Hall(7, DOORS)
        self.led(hall, (0, 1), (1, 1, 3, 0), (0, 1, 3, 4), (0, 2))
        self.assertEqual((hall.role(0), hall.is_open(0)), ("beside", False))

    def test_a_better_standing_leaves_open_what_leads(self):
        hall = Hall(7, DOORS)
        self.led(hall, (4, 1), (0, 1, 5, 0), (1, 1, 3, 0))
        self.assert_looks(hall, (3, 5), 1, {
            0: ("leads", False, (5, 0)),
            1: ("root", True, (3, 0)),
            4: ("leads", True, None),
            9: ("leads", False, None),
        })

    def test_an_agree_to_an_elder_say_counts_where_the_standing_got_better(self):
        hall = Hall(7, DOORS)
        self.led(hall, (1, 1, 3, 0), (4, 1))
        self.assertTrue(hall.is_open(4))

    def test_a_worse_standing_closes_till_the_say_of_it_is_agreed_to(self):
        hall = Hall(7, DOORS)
        self.led(hall, (1, 1, 3, 0), (4, 2), (9, 2))
        self.assertEqual([hall.is_open(link) for link in (4, 9)], [True, True])
        self.led(hall, (1, 2, 3, 1))
        self.assertEqual([hall.is_open(link) for link in (4, 9)], [False, False])
        self.led(hall, (4, 2), (9, 3))
        self.assertEqual([hall.is_open(link) for link in (4, 9)], [False, True])
        self.led(hall, (4, 3))
        self.assertTrue(hall.is_open(4))

    def test_worse_by_root_and_less_far(self):
        hall = Hall(7, DOORS)
        self.led(hall, (1, 1, 3, 50), (4, 2), (1, 2, 4, 0))
        self.assertFalse(hall.is_open(4))
        self.led(hall, (4, 3))
        self.assertTrue(hall.is_open(4))

    def test_better_by_root_and_farther(self):
        hall = Hall(7, DOORS)
        self.led(hall, (1, 1, 4, 0), (4, 2), (1, 2, 3, 50))
        self.assertTrue(hall.is_open(4))

    def test_a_door_that_leads_anew_asks_anew(self):
        hall = Hall(7, DOORS)
        # Its saying number 4 is the one by which door 0 leads anew.
        self.led(hall, (0, 1, 5, 0), (0, 1), (4, 1, 5, 0), (0, 2))
        self.assertEqual((hall.standing(), hall.role(0), hall.is_open(0)), ((5, 1), "beside", False))
        self.assertEqual(self.led(hall, (0, 2, 5, 2))[0], (0, ("say", 4, 5, 1)))
        self.assertEqual((hall.role(0), hall.is_open(0)), ("leads", False))
        self.led(hall, (0, 3))
        self.assertFalse(hall.is_open(0))
        self.led(hall, (0, 4))
        self.assertTrue(hall.is_open(0))

    def test_an_agree_never_takes_back_a_greater_one(self):
        hall = Hall(7, DOORS)
        self.led(hall, (1, 1, 3, 0), (1, 2, 3, 1), (4, 3), (4, 2))
        self.assertTrue(hall.is_open(4))
        self.led(hall, (1, 3, 3, 2), (4, 4), (4, 1))
        self.assertTrue(hall.is_open(4))

    def test_agrees_at_doors_that_do_not_lead_count_later(self):
        hall = Hall(7, DOORS)
        # The agree to number 2 comes while the door is beside. It leads anew by number 3.
        self.led(hall, (1, 1, 3, 0), (0, 1, 3, 4), (0, 2), (0, 2, 3, 6))
        self.assertEqual((hall.role(0), hall.is_open(0)), ("leads", False))
        self.led(hall, (0, 3))
        self.assertTrue(hall.is_open(0))


class Saying(HallCase):
    def test_another_standing_is_said_at_all_doors(self):
        hall = Hall(7, DOORS)
        self.assertEqual(self.led(hall, (1, 1, 3, 0)), [
            (0, ("say", 2, 3, 5)),
            (1, ("say", 2, 3, 5)),
            (1, ("agree", 1)),
            (4, ("say", 2, 3, 5)),
            (9, ("say", 2, 3, 5)),
        ])

    def test_the_same_standing_is_not_said(self):
        hall = Hall(7, DOORS)
        self.assertEqual(self.led(hall, (1, 1, 3, 0), (0, 1, 3, 9)), [])
        self.assertEqual(self.led(hall, (4, 1, 3, 5)), [])
        self.assertEqual(self.led(hall, (1, 2, 3, 0)), [(1, ("agree", 2))])
        # By another root door it stands alike.
        self.assertEqual(self.led(hall, (9, 1, 3, 4)), [(9, ("agree", 1))])
        self.assertEqual(hall.root_link(), 1)
        self.assertEqual(self.led(hall, (1, 3, 3, 1)), [(1, ("agree", 3))])
        self.assertEqual((hall.standing(), hall.root_link()), ((3, 5), 9))

    def test_far_alone_is_another_standing_and_root_alone_too(self):
        hall = Hall(7, DOORS, cut=(0, 9))
        self.assertEqual(self.led(hall, (1, 1, 3, 0), (1, 2, 3, 1))[0], (1, ("say", 3, 3, 6)))
        self.assertEqual(self.led(hall, (1, 3, 2, 1))[0], (1, ("say", 4, 2, 6)))

    def test_a_door_that_leads_anew_alone(self):
        hall = Hall(7, DOORS)
        self.led(hall, (1, 1, 3, 0), (0, 1, 3, 4), (9, 1, 3, 4))
        self.assertEqual(hall.root_link(), 1)
        self.assertEqual(self.led(hall, (0, 2, 3, 5)), [(0, ("say", 3, 3, 5))])
        self.assertEqual(self.led(hall, (0, 3, 3, 6)), [])

    def test_the_root_door_turns_to_lead(self):
        hall = Hall(7, DOORS, cut=(0, 9))
        posts = self.led(hall, (1, 1, 3, 0), (1, 2, 8, 0))
        self.assertEqual(posts, [(1, ("say", 3, 7, 0)), (4, ("say", 3, 7, 0))])
        self.assertEqual((hall.role(1), hall.is_open(1)), ("leads", False))

    def test_anew_and_another_standing_are_one_say(self):
        hall = Hall(7, DOORS, cut=(0, 9))
        self.assertEqual(self.led(hall, (1, 1, 3, 0), (4, 1, 3, 10), (1, 2, 3, 20)), [
            (1, ("say", 3, 3, 11)),
            (4, ("say", 3, 3, 11)),
            (4, ("agree", 1)),
        ])

    def test_numbers_are_counted_by_door(self):
        hall = Hall(7, DOORS)
        self.led(hall, (1, 1, 3, 0), (0, 1, 3, 4), (0, 2, 3, 5), (0, 3, 3, 4), (0, 4, 3, 5))
        posts = self.led(hall, (1, 2, 3, 1))
        self.assertEqual(posts[0], (0, ("say", 5, 3, 6)))
        self.assertEqual([row for row in posts if row[1][0] == "say"][1:], [
            (1, ("say", 3, 3, 6)),
            (4, ("say", 3, 3, 6)),
            (9, ("say", 3, 3, 6)),
        ])


class Agreeing(HallCase):
    def test_a_root_door_agrees_behind_what_it_says(self):
        hall = Hall(7, {1: (3, 5)})
        self.assertEqual(self.led(hall, (1, 1, 3, 0)), [(1, ("say", 2, 3, 5)), (1, ("agree", 1))])

    def test_a_door_beside_agrees(self):
        hall = Hall(7, DOORS)
        self.assertEqual(self.led(hall, (1, 1, 3, 0), (0, 1, 3, 4)), [(0, ("agree", 1))])
        self.assertEqual(self.led(hall, (0, 2, 3, 3)), [(0, ("agree", 2))])

    def test_to_a_number_once(self):
        hall = Hall(7, DOORS)
        self.led(hall, (1, 1, 3, 0), (0, 1, 3, 4))
        self.assertEqual(self.led(hall, (4, 1)), [])
        posts = self.led(hall, (9, 1, 3, 1))
        self.assertEqual([row for row in posts if row[1][0] == "agree"], [(9, ("agree", 1))])

    def test_a_door_that_leads_agrees_to_nothing(self):
        hall = Hall(7, DOORS)
        self.assertEqual(self.led(hall, (0, 1, 12, 0)), [])
        self.assertEqual(self.led(hall, (0, 2, 7, 3)), [])

    def test_a_door_that_led_agrees_where_it_leads_no_more(self):
        hall = Hall(7, DOORS)
        self.led(hall, (1, 1, 3, 0), (0, 1, 3, 9))
        self.assertEqual(hall.role(0), "leads")
        posts = self.led(hall, (1, 2, 3, 8))
        self.assertEqual(hall.standing(), (3, 12))
        self.assertEqual(posts[:2], [(0, ("say", 3, 3, 12)), (0, ("agree", 1))])

    def test_what_was_agreed_to_ahead_of_leading_is_agreed_to_again(self):
        hall = Hall(7, {0: (12, 3), 1: (3, 5)})
        self.assertEqual(self.led(hall, (1, 1, 3, 9), (0, 1, 3, 13)), [(0, ("agree", 1))])
        self.led(hall, (1, 2, 3, 0))
        self.assertEqual(hall.role(0), "leads")
        self.assertEqual(self.led(hall, (1, 3, 3, 9)), [
            (0, ("say", 4, 3, 14)),
            (0, ("agree", 1)),
            (1, ("say", 4, 3, 14)),
            (1, ("agree", 3)),
        ])

    def test_another_number_of_the_same_standing(self):
        hall = Hall(7, DOORS)
        self.assertEqual(self.led(hall, (1, 1, 3, 0), (1, 7, 3, 0)), [(1, ("agree", 7))])


class CuttingAndMending(HallCase):
    def test_a_cut_door_knows_nothing_and_says_nothing(self):
        hall = Hall(7, DOORS)
        self.led(hall, (1, 1, 3, 0), (4, 1))
        self.assertEqual(told(hall.cut(4)), [])
        self.assert_looks(hall, (3, 5), 1, {
            0: ("leads", False, None),
            1: ("root", True, (3, 0)),
            4: ("cut", False, None),
            9: ("leads", False, None),
        })
        self.assertEqual([link for link, _ in hall.take(1, Say(2, 3, 1))], [0, 1, 1, 9])

    def test_the_root_door_cut(self):
        hall = Hall(7, DOORS)
        self.led(hall, (1, 1, 3, 0), (4, 1, 3, 8), (4, 2), (9, 2))
        self.assertEqual(told(hall.cut(1)), [
            (0, ("say", 3, 3, 9)),
            (4, ("say", 3, 3, 9)),
            (4, ("agree", 1)),
            (9, ("say", 3, 3, 9)),
        ])
        self.assert_looks(hall, (3, 9), 4, {
            0: ("leads", False, None),
            1: ("cut", False, None),
            4: ("root", True, (3, 8)),
            9: ("leads", False, None),
        })

    def test_the_last_door_cut(self):
        hall = Hall(7, {1: (3, 5)})
        self.led(hall, (1, 1, 3, 0))
        self.assert_posts(hall.cut(1), [])
        self.assert_looks(hall, (7, 0), None, {1: ("cut", False, None)})

    def test_a_mended_door_says_the_standing_by_number_1(self):
        hall = Hall(7, DOORS)
        self.led(hall, (1, 1, 3, 0), (4, 1))
        hall.cut(4)
        self.assert_posts(hall.mend(4), [(4, ("say", 1, 3, 5))])
        self.assertEqual((hall.role(4), hall.is_open(4), hall.heard(4)), ("leads", False, None))
        self.led(hall, (4, 1))
        self.assertTrue(hall.is_open(4))

    def test_a_mended_door_knows_nothing_of_what_was_ahead(self):
        hall = Hall(7, DOORS)
        self.led(hall, (1, 1, 3, 0), (1, 2, 3, 2), (4, 3, 3, 1), (4, 3), (9, 3))
        hall.cut(4)
        hall.cut(1)
        self.assertEqual(told(hall.mend(1)), [(1, ("say", 1, 7, 0))])
        self.assertEqual(told(hall.mend(4)), [(4, ("say", 1, 7, 0))])
        self.assertEqual((hall.standing(), hall.heard(1), hall.heard(4)), ((7, 0), None, None))
        # Agrees count from number 1 again, and an agree to number 3 is far.
        self.led(hall, (4, 1))
        self.assertTrue(hall.is_open(4))
        # What has number 3 there, as the one that was agreed to ahead, is agreed to once more.
        self.assertIn((4, ("agree", 3)), self.led(hall, (4, 3, 3, 1)))

    def test_a_door_cut_from_the_start_is_mended(self):
        hall = Hall(7, DOORS, cut=(0, 1, 4))
        self.assert_posts(hall.mend(1), [(1, ("say", 1, 7, 0))])
        self.assertEqual(self.led(hall, (1, 1, 3, 0)), [
            (1, ("say", 2, 3, 5)),
            (1, ("agree", 1)),
            (9, ("say", 2, 3, 5)),
        ])

    def test_cut_and_mended_often(self):
        hall = Hall(7, DOORS)
        for _ in range(5):
            self.assertEqual(told(hall.cut(0)), [])
            self.assertEqual(told(hall.mend(0)), [(0, ("say", 1, 7, 0))])


class Rules(HallCase):
    def test_right_is_the_rule_where_none_is_told(self):
        rows = [(4, 1), (1, 1, 3, 0), (1, 2, 3, 1)]
        one, other = Hall(7, DOORS), Hall(7, DOORS, rule=RIGHT)
        self.assertEqual(self.led(one, *rows), self.led(other, *rows))
        self.assertEqual(hall_looks(one, DOORS), hall_looks(other, DOORS))
        self.assertFalse(one.is_open(4))

    def open_under(self, link, cut, rows):
        """The rules by which a door is open behind some letters, all posting the same."""
        found = []
        for rule in RULES:
            hall = Hall(7, DOORS, cut=cut, rule=rule)
            self.led(hall, *rows)
            if hall.is_open(link):
                found.append(rule)
        return found

    def test_hasty_opens_what_leads(self):
        self.assertEqual(self.open_under(0, (), []), ["hasty"])
        self.assertEqual(self.open_under(0, (), [(1, 1, 3, 0), (0, 1, 3, 9)]), ["hasty"])

    def test_hasty_opens_nothing_else(self):
        self.assertEqual(self.open_under(0, (), [(1, 1, 3, 0), (0, 1, 3, 4)]), [])
        hall = Hall(7, DOORS, cut=[1], rule="hasty")
        self.assertEqual([hall.is_open(link) for link in DOORS], [True, False, True, True])

    def test_worse_keeps_open_by_a_worse_standing(self):
        rows = [(1, 1, 3, 0), (4, 2), (1, 2, 3, 1)]
        self.assertEqual(self.open_under(4, (), rows), ["hasty", "worse"])

    def test_worse_says_it(self):
        rows = [(1, 1, 3, 0), (4, 2), (1, 2, 3, 1)]
        right, worse = Hall(7, DOORS), Hall(7, DOORS, rule="worse")
        self.assertEqual(self.led(right, *rows), self.led(worse, *rows))

    def test_worse_asks_anew_where_a_door_leads_anew(self):
        # The standing gets worse, and door 1, the root door, leads anew.
        rows = [(4, 1), (1, 1, 3, 0), (1, 2), (1, 2, 8, 0)]
        self.assertEqual(self.open_under(4, (), rows), ["hasty", "worse"])
        self.assertEqual(self.open_under(1, (), rows), ["hasty"])

    def test_turned_leaves_open_a_door_that_leads_anew(self):
        rows = [(0, 1), (1, 1, 3, 0), (0, 1, 3, 4), (0, 2, 3, 6)]
        self.assertEqual(self.open_under(0, (), rows), ["hasty", "turned"])

    def test_turned_asks_anew_by_a_worse_standing(self):
        rows = [(4, 1), (1, 1, 3, 0), (1, 2), (1, 2, 8, 0)]
        self.assertEqual(self.open_under(1, (), rows), ["hasty"])
        rows = [(1, 1, 3, 0), (4, 2), (1, 2, 3, 1)]
        self.assertNotIn("turned", self.open_under(4, (), rows))

    def test_turned_opens_nothing_that_was_not_agreed_to(self):
        rows = [(1, 1, 3, 0), (0, 1, 3, 4), (0, 2, 3, 6)]
        self.assertEqual(self.open_under(0, (), rows), ["hasty"])

    def test_turned_from_number_1_on_at_a_mended_door(self):
        hall = Hall(7, DOORS, rule="turned")
        self.led(hall, (4, 1))
        hall.cut(4)
        hall.mend(4)
        self.assertFalse(hall.is_open(4))
        self.led(hall, (4, 1))
        self.assertTrue(hall.is_open(4))

    def test_free_agrees_also_where_a_door_leads(self):
        for rule in RULES:
            hall = Hall(7, DOORS, rule=rule)
            self.assertEqual(self.led(hall, (0, 1, 12, 0)), [(0, ("agree", 1))] if rule == "free" else [])

    def test_free_agrees_once_to_a_number(self):
        hall = Hall(7, DOORS, rule="free")
        self.led(hall, (0, 1, 12, 0))
        self.assertEqual(self.led(hall, (9, 1, 12, 0)), [(9, ("agree", 1))])
        self.assertEqual(self.led(hall, (0, 2, 12, 0)), [(0, ("agree", 2))])

    def test_free_keeps_what_it_agreed_to_where_a_door_leads(self):
        rows = [(1, 1, 3, 0), (0, 1, 3, 9), (1, 2, 3, 8)]
        for rule in RULES:
            hall = Hall(7, DOORS, rule=rule)
            at_0 = [row for row in self.led(hall, *rows) if row[0] == 0]
            self.assertEqual(at_0, [(0, ("say", 3, 3, 12))] + [(0, ("agree", 1))] * (rule != "free"))

    def test_free_behind_a_door_that_was_beside(self):
        rows = [(1, 1, 3, 9), (0, 1, 3, 13), (1, 2, 3, 0), (1, 3, 3, 9)]
        for rule in RULES:
            hall = Hall(7, DOORS, rule=rule)
            self.assertEqual((0, ("agree", 1)) in self.led(hall, *rows), rule != "free")

    def test_free_knows_nothing_at_a_mended_door(self):
        hall = Hall(7, DOORS, rule="free")
        self.led(hall, (0, 1, 12, 0))
        hall.cut(0)
        hall.mend(0)
        self.assertEqual(self.led(hall, (0, 1, 12, 0)), [(0, ("agree", 1))])

    def test_kept_leaves_open_what_was_the_root_door(self):
        rows = [(1, 1, 3, 0), (4, 1, 3, 3)]
        self.assertEqual(self.open_under(1, (), rows), ["kept"])
        # It leads.
        rows = [(1, 1, 3, 0), (0, 1, 2, 0)]
        self.assertEqual(self.open_under(1, (), rows), ["hasty"])

    def test_kept_till_it_leads(self):
        # Root, beside, leads, beside.
        rows = [(1, 1, 3, 0), (4, 1, 3, 3)]
        self.assertEqual(self.open_under(1, (), rows), ["kept"])
        self.assertEqual(self.open_under(1, (), rows + [(1, 2, 3, 1)]), ["kept"])
        rows = rows + [(1, 3, 3, 9), (1, 4, 3, 0)]
        self.assertEqual(self.open_under(1, (), rows), [])
        # Root once more.
        rows = rows + [(4, 2, 3, 20), (4, 3, 3, 0)]
        self.assertEqual(self.open_under(1, (), rows), ["kept"])

    def test_kept_till_it_is_cut(self):
        hall = Hall(7, DOORS, rule="kept")
        self.led(hall, (1, 1, 3, 0), (4, 1, 3, 3))
        self.assertTrue(hall.is_open(1))
        hall.cut(1)
        self.assertFalse(hall.is_open(1))
        hall.mend(1)
        self.led(hall, (1, 1, 3, 0))
        self.assert_looks(hall, (3, 4), 4, {
            0: ("leads", False, None),
            1: ("beside", False, (3, 0)),
            4: ("root", True, (3, 3)),
            9: ("leads", False, None),
        })

    def test_kept_opens_no_door_that_was_beside_alone(self):
        self.assertEqual(self.open_under(0, (), [(1, 1, 3, 0), (0, 1, 3, 4)]), [])

    def test_no_rule(self):
        for thing in NO_NUMBERS + ["Right", "right ", 0, 1, nested(5000), list(RULES), RULES]:
            with self.subTest():
                self.assertEqual(self.refused(NoRule, Hall, 7, DOORS, rule=thing), {})


class Refusals(HallCase):
    def filled(self):
        hall = Hall(7, DOORS, cut=[9])
        self.led(hall, (1, 1, 3, 0), (0, 1, 3, 4), (4, 2))
        return hall

    def assert_stays(self, hall):
        self.assertEqual(hall_looks(hall, DOORS), hall_looks(self.filled(), DOORS))
        self.assertEqual(told(hall.posted()), told(self.filled().posted()))
        self.assertEqual(self.led(hall, (1, 2, 3, 1)), self.led(self.filled(), (1, 2, 3, 1)))

    def test_no_link(self):
        for thing in [2, 3, 5, -1, 10, 12, 10**9999, True, False, None, "0", [], {}, (0,)]:
            hall = self.filled()
            calls = [hall.cut, hall.mend, hall.role, hall.is_open, hall.heard]
            calls.append(lambda link: hall.take(link, Agree(1)))
            calls.append(lambda link: hall.take(link, Say(1, 0, 0)))
            for call in calls:
                with self.subTest():
                    self.refused_number(NoLink, thing, call, thing)
            self.assert_stays(hall)

    def test_no_link_of_a_hall_without_doors(self):
        hall = Hall(7, {}, cut=[0])
        for call in (hall.cut, hall.mend, hall.role, hall.is_open, hall.heard):
            self.refused_number(NoLink, 0, call, 0)

    def test_cut(self):
        hall = self.filled()
        self.refused_number(Cut, 9, hall.cut, 9)
        self.refused_number(Cut, 9, hall.take, 9, Agree(1))
        self.refused_number(Cut, 9, hall.take, 9, Say(1, 0, 0))
        self.assert_stays(hall)

    def test_cut_twice(self):
        hall = self.filled()
        hall.cut(0)
        self.refused_number(Cut, 0, hall.cut, 0)
        self.refused_number(Cut, 0, hall.take, 0, Agree(1))
        self.assertEqual(hall.role(0), "cut")

    def test_runs(self):
        hall = self.filled()
        for link in (0, 1, 4):
            self.refused_number(Runs, link, hall.mend, link)
        self.assert_stays(hall)
        hall.mend(9)
        self.refused_number(Runs, 9, hall.mend, 9)


class Hanging(HallCase):
    def test_what_is_handed_in_stays(self):
        doors, cut = {9: (12, 1), 1: (3, 5)}, [9, 5]
        hall = Hall(7, doors, cut=cut)
        hall.mend(9)
        hall.cut(1)
        self.led(hall, (9, 1, 2, 0))
        self.assertEqual((list(doors.items()), cut), ([(9, (12, 1)), (1, (3, 5))], [9, 5]))

    def test_nothing_hangs_on_what_is_handed_in(self):
        doors, cut = dict(DOORS), [0]
        hall = Hall(7, doors, cut=cut)
        doors[1] = (3, 30)
        doors[5] = (2, 1)
        del doors[4]
        cut.append(1)
        cut.remove(0)
        self.assertEqual([hall.role(link) for link in DOORS], ["cut", "leads", "leads", "leads"])
        self.refused_number(NoLink, 5, hall.role, 5)
        self.led(hall, (1, 1, 3, 0))
        self.assertEqual(hall.standing(), (3, 5))
        doors[0] = (12, 30)
        hall.mend(0)
        self.led(hall, (0, 1, 3, 1))
        self.assertEqual(hall.standing(), (3, 4))

    def test_told_lists_are_new(self):
        hall = Hall(7, DOORS)
        posted = list(hall.posted())
        hall.posted().clear()
        posts = hall.take(1, Say(1, 3, 0))
        posts.clear()
        self.assertEqual(told(hall.posted()), told(posted))
        self.assertEqual(len(hall.cut(1)), 3)

    def test_a_twin(self):
        for rule in RULES:
            hall = Hall(7, DOORS, cut=[9], most=20, rule=rule)
            self.led(hall, (1, 1, 3, 0), (0, 1, 3, 4), (4, 2), (1, 2, 3, 1), (4, 1, 3, 4))
            looks = hall_looks(hall, DOORS)
            twin = hall.twin()
            self.assertIs(type(twin), Hall)
            self.assertEqual(hall_looks(twin, DOORS), looks)
            self.assertEqual(told(twin.posted()), told(hall.posted()))
            rows = [(0, 2, 3, 17), (4, 4), (1, 3, 3, 16), (0, 1), (0, 3, 3, 18), (4, 2, 3, 20)]
            later = [self.led(twin, row) for row in rows] + [told(twin.mend(9)), told(twin.cut(1))]
            self.assertEqual(hall_looks(hall, DOORS), looks)
            self.assertEqual(later, [self.led(hall, row) for row in rows] + [told(hall.mend(9)), told(hall.cut(1))])
            self.assertEqual(hall_looks(hall, DOORS), hall_looks(twin, DOORS))

    def test_a_twin_knows_which_agrees_count(self):
        hall = Hall(7, DOORS)
        self.led(hall, (1, 1, 3, 0), (4, 2), (1, 2, 3, 1), (9, 3))
        for one in (hall, hall.twin(), hall.twin().twin()):
            self.assertEqual([one.is_open(link) for link in DOORS], [False, True, False, True])
            one.take(4, Agree(2))
            self.assertFalse(one.is_open(4))

    def test_a_twin_and_its_elder_apart(self):
        hall = Hall(7, DOORS)
        twin = hall.twin()
        looks = hall_looks(twin, DOORS)
        self.led(hall, (1, 1, 3, 0), (4, 1))
        hall.cut(0)
        self.assertEqual(hall_looks(twin, DOORS), looks)

    def test_kinds(self):
        hall = Hall(7, DOORS)
        self.led(hall, (1, 1, 3, 0))
        self.assertIs(type(hall.standing()), tuple)
        self.assertIs(type(hall.heard(1)), tuple)
        self.assertIs(type(hall.is_open(1)), bool)
        self.assertIs(type(hall.is_open(0)), bool)
        self.assertIs(type(hall.posted()[0]), tuple)


class AllKinds(HallCase):
    """Halls by letters of all kinds that can come, held against the plain one."""

    def step_of(self, dice, plain, heard):
        at = len(plain.steps) - 1
        link = dice.pick(list(plain.doors))
        if plain.ran_from(link, at) is None:
            return ("mend", link)
        roll = dice.roll(20)
        if roll == 0:
            heard[link] = 0
            return ("cut", link)
        if roll < 9:
            return ("take", link, ("agree", 1 + dice.roll(len(plain.says_from(link, at)))))
        heard[link] += 1 + dice.roll(2)
        root = dice.pick((0, 3, 3, 3, 7, 12))
        return ("take", link, ("say", heard[link], root, dice.roll(14)))

    def test_all_rules(self):
        for rule in RULES:
            for seed in range(6):
                dice = Dice(seed)
                links = dice.some(range(12), 1 + dice.roll(4))
                doors = {link: (dice.pick((3, 5, 12, 40)), 1 + dice.roll(4)) for link in links}
                cut = dice.some(links, dice.roll(2))
                plain = PlainHall(7, doors, cut, 12, rule)
                hall = Hall(7, doors, cut=cut, most=12, rule=rule)
                self.assertEqual(told(hall.posted()), plain.posts[0])
                heard = {link: 0 for link in links}
                for _ in range(30):
                    word, link, *letter = self.step_of(dice, plain, heard)
                    call = {"take": hall.take, "cut": hall.cut, "mend": hall.mend}[word]
                    posts = call(link, *[letter_of(row) for row in letter])
                    with self.subTest(rule=rule, seed=seed):
                        self.assertEqual(told(posts), plain.step(word, link, *letter))
                        self.assertEqual(hall_looks(hall, doors), plain.looks())


if __name__ == "__main__":
    unittest.main()

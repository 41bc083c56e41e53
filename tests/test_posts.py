import unittest

from ringless.errors import NoHall, NoLetter, NoLink
from ringless.letters import Agree, Say
from ringless.nets import Net
from ringless.posts import Post
from things import NO_NUMBERS, Case, Dice, nested

LINKS = [(12, 7, 3), (7, 40, 1), (12, 7, 5), (3, 40, 30)]
DOORS = [(0, 7), (0, 12), (1, 7), (1, 40), (2, 7), (2, 12), (3, 3), (3, 40)]
NO_LINKS = NO_NUMBERS + [-1, -4, 4, 12, 10**9999, nested(5000)]
NO_HALLS = NO_NUMBERS + [-1, 0, 5, 1000, 10**9999, nested(5000)]


def ordinary():
    return Net([12, 7, 40, 3], list(LINKS))


def filled():
    """A post with letters both ways on link 0, one way on links 2 and 3, none on link 1."""
    post = Post(ordinary())
    post.send(3, 40, Agree(9))
    post.send(0, 12, Say(1, 7, 3))
    post.send(0, 7, Say(1, 7, 0))
    post.send(2, 7, Say(1, 7, 0))
    post.send(0, 12, Agree(1))
    post.send(0, 12, Say(2, 3, 30))
    return post


FILLED = {
    (0, 7): [("say", 1, 7, 3), ("agree", 1), ("say", 2, 3, 30)],
    (0, 12): [("say", 1, 7, 0)],
    (2, 12): [("say", 1, 7, 0)],
    (3, 3): [("agree", 9)],
}


class PostCase(Case):
    def assert_rows(self, post, rows):
        """The post has just these rows, by all its looks."""
        self.assertEqual(list(post.rows().items()), sorted(rows.items()))
        self.assertEqual(post.waiting(), sorted(rows))
        self.assertEqual(len(post), sum(len(row) for row in rows.values()))
        for link, hall in DOORS:
            if (link, hall) in rows:
                self.assertEqual(post.first(link, hall).told(), rows[(link, hall)][0])
            else:
                found = self.refused(NoLetter, post.first, link, hall)
                self.assertEqual(found, {"link": link, "hall": hall})


class Rows(PostCase):
    def test_a_new_one_is_empty(self):
        self.assert_rows(Post(ordinary()), {})
        self.assert_rows(Post(net=ordinary()), {})

    def test_a_net_without_links(self):
        post = Post(Net([4], []))
        self.assertEqual((post.waiting(), post.rows(), len(post)), ([], {}, 0))
        self.refused_number(NoLink, 0, post.first, 0, 4)
        self.refused_number(NoLink, 0, post.lose, 0)

    def test_sent_to_the_door_that_is_not_this_halls(self):
        for link, (one, other, _) in enumerate(LINKS):
            for hall, beyond in ((one, other), (other, one)):
                post = Post(ordinary())
                self.assertIsNone(post.send(link, hall, Say(1, hall, 0)))
                self.assert_rows(post, {(link, beyond): [("say", 1, hall, 0)]})

    def test_each_door_has_a_row_of_its_own(self):
        self.assert_rows(filled(), FILLED)

    def test_doors_rise_in_whatever_order_letters_are_sent(self):
        post = Post(ordinary())
        rows = {}
        for link, hall in reversed(DOORS):
            beyond = ordinary().beyond(link, hall)
            post.send(link, beyond, Agree(hall))
            rows[(link, hall)] = [("agree", hall)]
            self.assert_rows(post, rows)

    def test_first_in_first_out(self):
        post = filled()
        for letter in (Say(1, 7, 3), Agree(1), Say(2, 3, 30)):
            self.assertEqual(post.first(0, 7), letter)
            self.assertEqual(post.take(0, 7), letter)
        self.assert_rows(post, {door: row for door, row in FILLED.items() if door != (0, 7)})

    def test_first_takes_nothing_out(self):
        post = filled()
        self.assertEqual(post.first(0, 7), Say(1, 7, 3))
        self.assertEqual(post.first(0, 7), Say(1, 7, 3))
        self.assert_rows(post, FILLED)

    def test_take_takes_one_out(self):
        post = filled()
        self.assertEqual(post.take(0, 7), Say(1, 7, 3))
        self.assert_rows(post, {**FILLED, (0, 7): [("agree", 1), ("say", 2, 3, 30)]})
        self.assertEqual(post.take(3, 3), Agree(9))
        rows = {**FILLED, (0, 7): [("agree", 1), ("say", 2, 3, 30)]}
        del rows[(3, 3)]
        self.assert_rows(post, rows)

    def test_sent_behind_what_is_left(self):
        post = filled()
        post.take(0, 7)
        post.send(0, 12, Agree(5))
        self.assertEqual(post.rows()[(0, 7)], [("agree", 1), ("say", 2, 3, 30), ("agree", 5)])
        post.take(2, 12)
        post.send(2, 7, Agree(6))
        self.assertEqual(post.rows()[(2, 12)], [("agree", 6)])

    def test_letters_alike_are_several(self):
        post = Post(ordinary())
        letter = Agree(1)
        for _ in range(3):
            post.send(1, 7, letter)
        self.assert_rows(post, {(1, 40): [("agree", 1)] * 3})
        post.take(1, 40)
        self.assert_rows(post, {(1, 40): [("agree", 1)] * 2})

    def test_by_name(self):
        post = Post(net=ordinary())
        post.send(letter=Agree(2), hall=7, link=1)
        self.assertEqual(post.first(hall=40, link=1), Agree(2))
        self.assertEqual(post.take(hall=40, link=1), Agree(2))
        post.send(1, 7, letter=Agree(3))
        self.assertIsNone(post.lose(link=1))
        self.assert_rows(post, {})


class Losing(PostCase):
    def test_all_letters_on_the_link_both_ways(self):
        post = filled()
        self.assertIsNone(post.lose(0))
        self.assert_rows(post, {(2, 12): [("say", 1, 7, 0)], (3, 3): [("agree", 9)]})

    def test_another_link_of_the_same_halls(self):
        post = filled()
        post.lose(2)
        self.assert_rows(post, {door: row for door, row in FILLED.items() if door != (2, 12)})

    def test_where_there_are_none(self):
        post = filled()
        post.lose(1)
        self.assert_rows(post, FILLED)
        post.lose(3)
        post.lose(3)
        self.assert_rows(post, {door: row for door, row in FILLED.items() if door != (3, 3)})

    def test_sent_behind_it(self):
        post = filled()
        post.lose(0)
        post.send(0, 12, Agree(4))
        self.assertEqual(post.rows()[(0, 7)], [("agree", 4)])


class Twins(PostCase):
    def test_a_twin_has_the_same_letters(self):
        self.assert_rows(filled().twin(), FILLED)
        self.assert_rows(Post(ordinary()).twin(), {})
        self.assertIs(type(filled().twin()), Post)

    def test_a_twin_and_its_elder_apart(self):
        # Each way: what is done with the one leaves the other.
        for turned in (False, True):
            elder = filled()
            one, other = (elder.twin(), elder) if turned else (elder, elder.twin())
            one.take(0, 7)
            self.assert_rows(other, FILLED)
            one.send(0, 12, Agree(7))
            one.send(1, 7, Agree(8))
            self.assert_rows(other, FILLED)
            one.lose(0)
            one.take(3, 3)
            self.assert_rows(other, FILLED)
            self.assert_rows(one, {(1, 40): [("agree", 8)], (2, 12): [("say", 1, 7, 0)]})

    def test_a_twin_of_a_twin(self):
        post = filled().twin().twin()
        self.assertEqual(post.take(0, 7), Say(1, 7, 3))
        self.refused_number(NoLink, 4, post.take, 4, 7)

    def test_what_is_sent_to_the_elder_comes_to_it_alone(self):
        elder = Post(ordinary())
        twin = elder.twin()
        elder.send(1, 7, Agree(1))
        self.assert_rows(twin, {})
        self.assert_rows(elder, {(1, 40): [("agree", 1)]})


class Refusals(PostCase):
    def calls(self, post):
        return [lambda link, hall: post.send(link, hall, Agree(1)), post.first, post.take]

    def test_no_link(self):
        post = filled()
        for thing in NO_LINKS:
            for call in self.calls(post) + [lambda link, hall: post.lose(link)]:
                with self.subTest():
                    self.refused_number(NoLink, thing, call, thing, 7)
                    self.assertEqual(post.rows(), FILLED)

    def test_no_hall(self):
        post = filled()
        for thing in NO_HALLS:
            for call in self.calls(post):
                with self.subTest():
                    self.refused_number(NoHall, thing, call, 0, thing)
                    self.assertEqual(post.rows(), FILLED)

    def test_a_hall_that_the_link_does_not_join(self):
        post = filled()
        for link, hall in ((0, 40), (0, 3), (1, 12), (3, 7), (2, 40)):
            for call in self.calls(post):
                self.refused_number(NoHall, hall, call, link, hall)
        self.assert_rows(post, FILLED)

    def test_a_truth_is_no_link_and_no_hall(self):
        post = Post(Net([0, 1], [(0, 1, 1), (0, 1, 1)]))
        for link in (0, 1):
            post.send(link, 0, Agree(1))
            post.send(link, 1, Agree(1))
        rows = post.rows()
        for thing in (True, False):
            for call in self.calls(post):
                self.refused_number(NoLink, thing, call, thing, 0)
                self.refused_number(NoHall, thing, call, 0, thing)
            self.refused_number(NoLink, thing, post.lose, thing)
        self.assertEqual(post.rows(), rows)

    def test_no_letter(self):
        post = filled()
        for link, hall in ((1, 7), (1, 40), (2, 7), (3, 40)):
            for call in (post.first, post.take):
                self.assertEqual(self.refused(NoLetter, call, link, hall), {"link": link, "hall": hall})
                self.assertEqual(self.refused(NoLetter, call, hall=hall, link=link), {"link": link, "hall": hall})
        self.assert_rows(post, FILLED)

    def test_no_letter_behind_the_last_one(self):
        post = filled()
        post.take(2, 12)
        self.assertEqual(self.refused(NoLetter, post.take, 2, 12), {"link": 2, "hall": 12})
        post.lose(0)
        self.assertEqual(self.refused(NoLetter, post.first, 0, 7), {"link": 0, "hall": 7})
        self.assert_rows(post, {(3, 3): [("agree", 9)]})

    def test_no_link_then_no_hall_then_no_letter(self):
        post = filled()
        for call in self.calls(post):
            self.refused_number(NoLink, 4, call, 4, None)
            self.refused_number(NoLink, None, call, None, 8)
        for call in (post.first, post.take):
            self.refused_number(NoHall, 3, call, 1, 3)
            self.refused_number(NoHall, None, call, 1, None)
        self.assert_rows(post, FILLED)

    def test_nothing_hangs_on_a_refused_list(self):
        post = filled()
        thing = [[0]]
        for error, call in ((NoLink, lambda: post.take(thing, 7)), (NoHall, lambda: post.take(0, thing))):
            with self.assertRaises(error) as caught:
                call()
            thing[0].append(1)
            self.assertEqual(caught.exception.number, [[0]])
            thing[0].pop()


class Hanging(PostCase):
    def test_told_lists_and_dicts_are_new(self):
        post = filled()
        waiting = post.waiting()
        waiting.reverse()
        waiting.append((1, 7))
        rows = post.rows()
        rows[(0, 7)].append(("agree", 5))
        rows[(0, 12)].clear()
        del rows[(3, 3)]
        rows[(1, 7)] = [("agree", 1)]
        self.assert_rows(post, FILLED)

    def test_kinds(self):
        post = filled()
        self.assertIs(type(post.waiting()), list)
        self.assertIs(type(post.waiting()[0]), tuple)
        self.assertIs(type(post.rows()), dict)
        self.assertIs(type(post.rows()[(0, 7)]), list)
        self.assertIs(type(post.rows()[(0, 7)][0]), tuple)

    def test_the_net_stays(self):
        net = ordinary()
        post = Post(net)
        post.send(0, 7, Agree(1))
        post.lose(0)
        self.assertEqual(net, ordinary())

    def test_two_posts_of_one_net(self):
        net = ordinary()
        one = Post(net)
        other = Post(net)
        one.send(0, 7, Agree(1))
        self.assert_rows(other, {})


class Many(PostCase):
    def test_some_hundred_letters(self):
        post = Post(ordinary())
        for number in range(700):
            post.send(1, 7, Say(number, 3, number % 5))
            post.send(1, 40, Agree(number))
        self.assertEqual(len(post), 1400)
        self.assertEqual([post.take(1, 7) for _ in range(700)], [Agree(number) for number in range(700)])
        self.assertEqual(len(post), 700)
        found = [post.take(1, 40).told() for _ in range(700)]
        self.assertEqual(found, [("say", number, 3, number % 5) for number in range(700)])
        self.assert_rows(post, {})

    def test_all_kinds_of_deeds_by_plain_rows(self):
        for seed in range(6):
            dice = Dice(seed)
            net = ordinary()
            post = Post(net)
            rows = {door: [] for door in DOORS}
            for number in range(400):
                link, hall = dice.pick(DOORS)
                deed = dice.roll(20)
                if deed == 0:
                    post.lose(link)
                    rows.update({door: [] for door in DOORS if door[0] == link})
                elif deed == 1:
                    elder = post
                    post = post.twin()
                    elder.lose(link)
                elif deed < 12:
                    letter = dice.pick((Say(number, hall, deed), Agree(number)))
                    post.send(link, hall, letter)
                    rows[(link, net.beyond(link, hall))].append(letter.told())
                elif rows[(link, hall)]:
                    self.assertEqual(post.take(link, hall).told(), rows[(link, hall)].pop(0))
                else:
                    self.assertEqual(self.refused(NoLetter, post.take, link, hall), {"link": link, "hall": hall})
                self.assert_rows(post, {door: row for door, row in rows.items() if row})


if __name__ == "__main__":
    unittest.main()

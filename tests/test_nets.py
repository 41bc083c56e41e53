import unittest

from ringless.errors import BadNet, NoHall, NoLink
from ringless.nets import Net
from things import NO_NUMBERS, Case, nested

HALLS = [12, 7, 3, 40]
LINKS = [(7, 12, 3), (12, 40, 1), (12, 7, 5), (40, 7, 30)]


def ordinary():
    return Net(list(HALLS), list(LINKS))


class Ordinary(Case):
    def test_halls_rise(self):
        self.assertEqual(ordinary().halls(), [3, 7, 12, 40])

    def test_links_keep_their_order(self):
        self.assertEqual(ordinary().links(), LINKS)

    def test_most_is_the_sum_of_all_costs(self):
        self.assertEqual(ordinary().most(), 39)

    def test_doors_rise(self):
        net = ordinary()
        self.assertEqual([net.doors(hall) for hall in (3, 7, 12, 40)], [[], [0, 2, 3], [0, 1, 2], [1, 3]])

    def test_beyond_is_the_other_end(self):
        net = ordinary()
        for link, (one, other, _) in enumerate(LINKS):
            self.assertEqual(net.beyond(link, one), other)
            self.assertEqual(net.beyond(link, other), one)

    def test_ends_rise(self):
        net = ordinary()
        self.assertEqual([net.ends(link) for link in range(4)], [[7, 12], [12, 40], [7, 12], [7, 40]])

    def test_cost(self):
        net = ordinary()
        self.assertEqual([net.cost(link) for link in range(4)], [3, 1, 5, 30])

    def test_arguments_by_name(self):
        net = Net(links=list(LINKS), halls=list(HALLS))
        self.assertEqual(net, ordinary())
        self.assertEqual(net.doors(hall=40), [1, 3])
        self.assertEqual(net.beyond(hall=40, link=3), 7)
        self.assertEqual(net.ends(link=3), [7, 40])
        self.assertEqual(net.cost(link=2), 5)


class Edges(Case):
    def test_one_hall_no_link(self):
        net = Net([0], [])
        self.assertEqual((net.halls(), net.links(), net.most(), net.doors(0)), ([0], [], 0, []))
        self.refused_number(NoLink, 0, net.cost, 0)
        self.refused_number(NoLink, 0, net.beyond, 0, 0)

    def test_eight_halls_twelve_links(self):
        halls = [999, 0, 5, 4, 3, 2, 1, 6]
        links = [(999, 0, 30)] * 6 + [(0, 999, 1)] * 5 + [(6, 999, 30)]
        net = Net(halls, links)
        self.assertEqual(net.halls(), [0, 1, 2, 3, 4, 5, 6, 999])
        self.assertEqual(net.links(), links)
        self.assertEqual(net.most(), 215)
        self.assertEqual(net.doors(999), list(range(12)))
        self.assertEqual(net.doors(0), list(range(11)))
        self.assertEqual((net.cost(0), net.cost(10), net.cost(11)), (30, 1, 30))
        self.assertEqual((net.beyond(11, 999), net.beyond(11, 6), net.beyond(10, 0)), (6, 999, 999))

    def test_the_most_that_can_be(self):
        self.assertEqual(Net([0, 999], [(0, 999, 30)] * 12).most(), 360)

    def test_several_links_of_the_same_halls(self):
        net = Net([1, 2], [(1, 2, 1), (1, 2, 1), (2, 1, 30)])
        self.assertEqual((net.doors(1), net.doors(2)), ([0, 1, 2], [0, 1, 2]))
        self.assertEqual([net.beyond(link, 1) for link in range(3)], [2, 2, 2])


class NoNets(Case):
    def no_net(self, halls, links):
        with self.subTest():
            self.assertEqual(self.refused(BadNet, Net, halls, links), {})

    def test_halls_of_anything(self):
        for thing in NO_NUMBERS + [0, 7, (7,), {7: 7}, "7", nested(5000)]:
            if thing != [7]:
                self.no_net(thing, [])

    def test_a_hall_of_anything(self):
        for thing in NO_NUMBERS + [-1, 1000, 10**30, nested(5000)]:
            self.no_net([thing], [])
            self.no_net([5, thing], [])
            self.no_net([thing, 5], [])

    def test_too_many_none_or_twice(self):
        self.no_net(list(range(9)), [])
        self.no_net([], [])
        self.no_net([4, 4], [])
        self.no_net([4, 5, 6, 4], [])

    def test_links_of_anything(self):
        for thing in NO_NUMBERS + [0, ((1, 2, 3),), {(1, 2, 3): 1}, {0: (1, 2, 3)}, nested(5000)]:
            if thing != []:
                self.no_net([1, 2], thing)

    def test_a_link_of_anything(self):
        for thing in NO_NUMBERS + [0, [1, 2, 3], (1, 2), (1, 2, 3, 4), ((1, 2, 3),), "123", nested(5000)]:
            self.no_net([1, 2], [thing])
            self.no_net([1, 2], [(1, 2, 3), thing])

    def test_a_link_too_many(self):
        self.no_net([1, 2], [(1, 2, 3)] * 13)

    def test_ends_that_are_no_two_halls(self):
        for thing in NO_NUMBERS + [-1, 3, 10**30]:
            self.no_net([0, 1, 2], [(thing, 2, 3)])
            self.no_net([0, 1, 2], [(2, thing, 3)])
        self.no_net([0, 1, 2], [(1, 1, 3)])
        self.no_net([0, 1, 2], [(0, 1, 3), (2, 2, 3)])

    def test_costs_that_are_none(self):
        for thing in NO_NUMBERS + [-1, 0, 31, 10**30]:
            self.no_net([1, 2], [(1, 2, thing)])


class Refusals(Case):
    def test_doors_of_no_hall(self):
        net = Net([0, 1, 7], [(0, 1, 3), (1, 7, 3)])
        for thing in NO_NUMBERS + [-1, 2, 999, 1000, 10**9999, nested(5000)]:
            with self.subTest():
                self.refused_number(NoHall, thing, net.doors, thing)

    def test_cost_and_ends_of_no_link(self):
        net = Net([0, 1, 7], [(0, 1, 3), (1, 7, 3)])
        for thing in NO_NUMBERS + [-1, -2, 2, 12, 10**9999, nested(5000)]:
            with self.subTest():
                self.refused_number(NoLink, thing, net.cost, thing)
                self.refused_number(NoLink, thing, net.ends, thing)

    def test_beyond_no_link(self):
        net = Net([0, 1, 7], [(0, 1, 3), (1, 7, 3)])
        for thing in NO_NUMBERS + [-1, -2, 2, 12, 10**9999, nested(5000)]:
            with self.subTest():
                self.refused_number(NoLink, thing, net.beyond, thing, 1)

    def test_beyond_no_hall(self):
        net = Net([0, 1, 7], [(0, 1, 3), (1, 7, 3)])
        for thing in NO_NUMBERS + [-1, 2, 999, 1000, 10**9999, nested(5000)]:
            with self.subTest():
                self.refused_number(NoHall, thing, net.beyond, 0, thing)

    def test_beyond_a_hall_that_the_link_does_not_join(self):
        net = Net([0, 1, 7], [(0, 1, 3), (1, 7, 3)])
        self.refused_number(NoHall, 7, net.beyond, 0, 7)
        self.refused_number(NoHall, 0, net.beyond, 1, 0)

    def test_no_link_comes_ahead_of_no_hall(self):
        net = ordinary()
        for thing in NO_NUMBERS + [-1, 4]:
            self.refused_number(NoLink, thing, net.beyond, thing, None)
            self.refused_number(NoLink, thing, net.beyond, thing, 5)

    def test_what_is_refused_changes_nothing(self):
        net = ordinary()
        self.refused(NoHall, net.doors, 5)
        self.refused(NoLink, net.cost, 4)
        self.refused(NoHall, net.beyond, 0, 40)
        self.assertEqual(net, ordinary())
        self.assertEqual(net.halls(), [3, 7, 12, 40])


class Sameness(Case):
    def test_alike(self):
        self.assertTrue(ordinary() == ordinary())
        self.assertFalse(ordinary() != ordinary())

    def test_halls_are_a_set(self):
        other = Net([3, 7, 12, 40], list(LINKS))
        self.assertTrue(ordinary() == other)
        self.assertFalse(ordinary() != other)

    def unlike(self, one, other):
        self.assertFalse(one == other)
        self.assertFalse(other == one)
        self.assertTrue(one != other)
        self.assertTrue(other != one)

    def test_other_halls(self):
        self.unlike(Net([1, 2], []), Net([1, 3], []))
        self.unlike(Net([1, 2, 3], [(1, 2, 3)]), Net([1, 2], [(1, 2, 3)]))

    def test_links_as_they_were_handed_in(self):
        net = Net([1, 2, 3], [(1, 2, 3), (2, 3, 4)])
        self.unlike(net, Net([1, 2, 3], [(2, 3, 4), (1, 2, 3)]))
        self.unlike(net, Net([1, 2, 3], [(2, 1, 3), (2, 3, 4)]))
        self.unlike(net, Net([1, 2, 3], [(1, 2, 3), (2, 3, 5)]))
        self.unlike(net, Net([1, 2, 3], [(1, 2, 3), (1, 3, 4)]))
        self.unlike(net, Net([1, 2, 3], [(1, 2, 3)]))

    def test_what_is_no_net(self):
        for thing in NO_NUMBERS + [0, 7, (HALLS, LINKS), [HALLS, LINKS]]:
            self.unlike(ordinary(), thing)


class Hanging(Case):
    def test_what_is_handed_in_stays(self):
        halls = list(HALLS)
        links = list(LINKS)
        Net(halls, links)
        self.assertEqual((halls, links), (HALLS, LINKS))

    def test_what_is_refused_stays(self):
        halls = [9, 4, 4]
        links = [(4, 9, 1), [9, 4, 1]]
        self.refused(BadNet, Net, halls, links)
        self.refused(BadNet, Net, [4, 9], links)
        self.assertEqual((halls, links), ([9, 4, 4], [(4, 9, 1), [9, 4, 1]]))

    def test_nothing_hangs_on_what_was_handed_in(self):
        halls = list(HALLS)
        links = list(LINKS)
        net = Net(halls, links)
        halls.append(1)
        halls[0] = 2
        links.append((1, 2, 3))
        links[0] = (3, 40, 9)
        self.assertEqual(net, ordinary())
        self.assertEqual(net.handed(), HALLS)
        self.assertEqual((net.doors(3), net.cost(0), net.most()), ([], 3, 39))
        self.refused_number(NoHall, 1, net.doors, 1)

    def test_lists_that_are_told_are_new(self):
        net = ordinary()
        for look in (net.halls, net.handed, net.links, lambda: net.doors(7), lambda: net.ends(3)):
            found = look()
            self.assertIs(type(found), list)
            ahead = list(found)
            found.reverse()
            found.append(5)
            self.assertEqual(look(), ahead)
        self.assertEqual(net, ordinary())

    def test_nothing_hangs_on_a_refused_list(self):
        thing = [0]
        for error, call in ((NoHall, ordinary().doors), (NoLink, ordinary().cost)):
            with self.assertRaises(error) as caught:
                call(thing)
            thing.append(1)
            self.assertEqual(caught.exception.number, [0])
            thing.pop()


if __name__ == "__main__":
    unittest.main()

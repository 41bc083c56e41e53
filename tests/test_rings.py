import unittest
from itertools import combinations, permutations

from plain import RING_WAYS, all_looks, has_ring, is_done, led, some_deed, some_net
from ringless.nets import Net
from ringless.rings import falling, falls, peeling, peels, ring
from ringless.rules import RULES
from ringless.settling import settled
from ringless.weaves import Weave
from things import NO_NUMBERS, Case, Dice, nested

# A ring of four links, two of three with one link in common, and two links between the same two halls.
HALLS = [1, 2, 3, 4, 5, 6]
LINKS = [(1, 2, 1), (2, 3, 1), (3, 4, 1), (4, 1, 1), (1, 3, 1), (5, 6, 1), (6, 5, 2), (4, 5, 1)]
# Hall 3 by two links from 1, hall 2 by one from 3: the root links are 1 and 2.
WOVEN = Net([1, 2, 3], [(1, 3, 2), (1, 3, 1), (3, 2, 5)])


def ordinary():
    return Net(list(HALLS), list(LINKS))


def is_round(net, row):
    """Whether links in this order lead from hall to hall and back to where they began, each hall come to once."""
    for begin in net.ends(row[0]):
        at, been = begin, []
        for link in row:
            if at not in net.ends(link):
                break
            at = net.beyond(link, at)
            been.append(at)
        else:
            if at == begin and len(set(been)) == len(row):
                return True
    return False


def ring_by_rounds(net, links):
    for many in range(2, len(links) + 1):
        for some in combinations(sorted(links), many):
            if any(is_round(net, row) for row in permutations(some)):
                return list(some)
    return None


def peels_by_words(net, links, rows):
    left = list(links)
    for hall, link in rows:
        if [other for other in left if hall in net.ends(other)] != [link]:
            return False
        left.remove(link)
    return not left


class Rings(Case):
    def assert_ring(self, found, links, net=None):
        self.assertEqual(ring(net or ordinary(), links), found)

    def test_none(self):
        self.assert_ring(None, [])
        self.assert_ring(None, [0])
        self.assert_ring(None, [0, 1, 2, 5, 7])
        self.assert_ring(None, [], Net([4], []))

    def test_two_links_of_a_row_or_of_a_star_are_none(self):
        self.assert_ring(None, [0, 1])
        self.assert_ring(None, [0, 3, 4])
        self.assert_ring(None, [0, 5])

    def test_two_links(self):
        self.assert_ring([5, 6], [5, 6])
        self.assert_ring([5, 6], list(range(8)))
        self.assert_ring([5, 6], [6, 4, 5, 1, 0])

    def test_three_links(self):
        self.assert_ring([0, 1, 4], [4, 1, 0])
        self.assert_ring([2, 3, 4], [5, 4, 3, 2, 7])

    def test_four_links(self):
        self.assert_ring([0, 1, 2, 3], [3, 1, 0, 2])
        self.assert_ring([0, 1, 2, 3], [7, 6, 3, 1, 0, 2])

    def test_the_shortest(self):
        self.assert_ring([2, 3, 4], [1, 2, 3, 4])
        self.assert_ring([0, 3], [0, 1, 2, 3], Net([1, 2, 3], [(1, 2, 9), (2, 3, 1), (3, 1, 1), (2, 1, 9)]))

    def test_of_several_the_least(self):
        self.assert_ring([0, 1, 4], [0, 1, 2, 3, 4])
        net = Net([1, 2, 3], [(1, 2, 1), (2, 3, 1), (3, 2, 1), (2, 1, 1), (1, 2, 1)])
        self.assert_ring([0, 3], [0, 1, 2, 3, 4], net)
        self.assert_ring([0, 3], [4, 3, 2, 1, 0], net)
        self.assert_ring([1, 2], [1, 2, 3, 4], net)
        self.assert_ring([3, 4], [4, 1, 3], net)

    def test_eight_links(self):
        net = Net(list(range(8)), [(hall, (hall + 1) % 8, 1) for hall in range(8)])
        self.assert_ring(list(range(8)), list(range(8)), net)
        self.assert_ring(None, list(range(1, 8)), net)

    def test_two_rings_apart(self):
        net = Net([1, 2, 3, 4, 5, 6], [(1, 2, 1), (4, 5, 1), (2, 3, 1), (5, 6, 1), (3, 1, 1), (6, 4, 1)])
        self.assert_ring([0, 2, 4], list(range(6)), net)
        self.assert_ring([1, 3, 5], [1, 2, 3, 4, 5], net)

    def test_what_is_handed_in_stays(self):
        links = [6, 4, 5]
        ring(ordinary(), links)
        peeling(ordinary(), links)
        peels(ordinary(), links, [])
        self.assertEqual(links, [6, 4, 5])

    def test_all_links_of_many_nets(self):
        for seed in range(60):
            dice = Dice(seed)
            net = some_net(dice)
            links = dice.some(range(len(net.links())), min(6, len(net.links())))
            with self.subTest(net=net.links(), links=links):
                found = ring(net, links)
                self.assertEqual(found, ring_by_rounds(net, links))
                self.assertEqual(found is not None, has_ring(net, links))

    def test_twelve_links(self):
        for seed in range(30):
            dice = Dice(seed)
            halls = dice.some(range(1000), 2 + seed % 7)
            net = Net(halls, [(*dice.some(halls, 2), 1) for _ in range(12)])
            found = ring(net, list(range(12)))
            self.assertTrue(any(is_round(net, row) for row in permutations(found)))
            if len(found) < 4:
                self.assertEqual(ring_by_rounds(net, range(12)), found)


class Peelings(Case):
    def test_none_where_there_is_a_ring(self):
        self.assertIsNone(peeling(ordinary(), [5, 6]))
        self.assertIsNone(peeling(ordinary(), [0, 1, 4]))
        self.assertIsNone(peeling(ordinary(), [3, 2, 7, 1, 0]))

    def test_of_no_links(self):
        self.assertEqual(peeling(ordinary(), []), [])
        self.assertEqual(peeling(Net([4], []), []), [])

    def test_each_link_once(self):
        found = peeling(ordinary(), [7, 1, 4, 5])
        self.assertIs(type(found), list)
        self.assertTrue(all(type(row) is tuple and len(row) == 2 for row in found))
        self.assertEqual(sorted(link for _, link in found), [1, 4, 5, 7])
        self.assertTrue(peels_by_words(ordinary(), [1, 4, 5, 7], found))

    def test_many_nets(self):
        for seed in range(120):
            dice = Dice(seed)
            net = some_net(dice)
            links = dice.some(range(len(net.links())), dice.roll(len(net.links()) + 1))
            found = peeling(net, links)
            self.assertEqual(found is None, has_ring(net, links))
            if found is not None:
                self.assertTrue(peels_by_words(net, links, found))
                self.assertIs(peels(net, links, found), True)
                self.assertIs(peels(net, links[::-1], found), True)


class Peels(Case):
    def test_each_order_that_peels(self):
        # A row of halls 2, 3, 4, 1 and a link apart.
        net, links = ordinary(), [1, 2, 3, 5]
        doors = [(hall, link) for link in links for hall in net.ends(link)]
        right = 0
        for order in permutations(links):
            for halls in range(16):
                rows = [(net.ends(link)[halls >> place & 1], link) for place, link in enumerate(order)]
                right += peels_by_words(net, links, rows)
                self.assertEqual(peels(net, links, rows), peels_by_words(net, links, rows))
        self.assertEqual((right > 0, len(doors)), (True, 8))

    def test_a_link_left_out_or_there_twice_or_another(self):
        net, links = ordinary(), [1, 2]
        self.assertTrue(peels(net, links, [(2, 1), (3, 2)]))
        for rows in ([], [(2, 1)], [(2, 1), (3, 2), (3, 2)], [(2, 1), (2, 1), (3, 2)], [(2, 1), (3, 2), (1, 0)]):
            self.assertIs(peels(net, links, rows), False)
        self.assertFalse(peels(net, [1], [(3, 2)]))
        self.assertTrue(peels(net, [], []))
        self.assertFalse(peels(net, [], [(2, 1)]))

    def test_a_hall_that_is_not_the_links(self):
        net = ordinary()
        for hall in (1, 4, 5, 0, 7, -1, 1000, 10**30):
            self.assertIs(peels(net, [1], [(hall, 1)]), False)

    def test_a_ring_by_no_rows(self):
        net = ordinary()
        for links in ([5, 6], [0, 1, 4]):
            for order in permutations(links):
                for halls in range(8):
                    rows = [(net.ends(link)[halls >> place & 1], link) for place, link in enumerate(order)]
                    self.assertIs(peels(net, links, rows), False)
            self.assertIs(peels(net, links, None), False)

    def test_of_anything(self):
        net, links = Net([0, 1, 2], [(0, 1, 1), (1, 2, 1)]), [0, 1]
        self.assertTrue(peels(net, links, [(0, 0), (1, 1)]))
        things = NO_NUMBERS + [0, nested(5000), [nested(5000)], ((0, 0), (1, 1)), {(0, 0): (1, 1)}]
        for part in NO_NUMBERS + [3, -1, nested(5000), 10**9999]:
            things += [[(part, 0), (1, 1)], [(0, part), (1, 1)], [(0, 0), (part, 1)], [(0, 0), (1, part)]]
            things += [[part, (1, 1)], [(0, 0), part], [(0, 0), (1, 1), part]]
        things += [[[0, 0], (1, 1)], [(0, 0), [1, 1]], [(0, 0, 0), (1, 1)], [(0,), (1, 1)]]
        for thing in things:
            with self.subTest():
                self.assertIs(peels(net, links, thing), False)


class Falling(Case):
    def falling_by_words(self, weave):
        rows = []
        roles = weave.roles()
        for link in weave.open_links():
            one, other = weave.net().ends(link)
            parts = (roles[(link, one)], roles[(link, other)])
            rows.append({
                ("root", "leads"): (link, one, other),
                ("leads", "root"): (link, other, one),
            }.get(parts, (link, None, None)))
        return rows

    def holds_by_words(self, weave):
        roles, standings = weave.roles(), weave.standings()
        for link, child, parent in self.falling_by_words(weave):
            if child is None and {roles[(link, hall)] for hall in weave.net().ends(link)} != {"root"}:
                return False
            if child is not None and not standings[child] > standings[parent]:
                return False
        return True

    def test_each_open_link_rising(self):
        weave = Weave(WOVEN)
        self.assertEqual(falling(weave), [])
        settled(weave)
        self.assertEqual(weave.open_links(), [1, 2])
        self.assertEqual(falling(weave), [(1, 3, 1), (2, 2, 3)])
        # Hall 3 stood beside link 0 and has agreed there, but has got worse, so link 2 is closed for now.
        weave.cut(1)
        self.assertEqual(falling(weave), [(0, 3, 1)])
        settled(weave)
        self.assertEqual(falling(weave), [(0, 3, 1), (2, 2, 3)])

    def both_roots(self):
        """Halls 2 and 3 stand by one another."""
        weave = Weave(Net([1, 2, 3], [(1, 2, 1), (2, 3, 1), (1, 3, 9)]))
        settled(weave)
        weave.cut(0)
        return weave

    def test_two_root_doors(self):
        weave = self.both_roots()
        self.assertEqual((weave.roles()[(1, 2)], weave.roles()[(1, 3)]), ("root", "root"))
        self.assertEqual(falling(weave), [(1, None, None)])
        self.assertIs(falls(weave, [(1, None, None)]), True)
        self.assertIs(falls(weave, [(1, 3, 2)]), False)
        self.assertIs(falls(weave, [(1, 2, 3)]), False)

    def test_falls(self):
        weave = Weave(WOVEN)
        self.assertIs(falls(weave, []), True)
        settled(weave)
        rows = [(1, 3, 1), (2, 2, 3)]
        self.assertIs(falls(weave, rows), True)
        for other in (rows[::-1], rows[:1], rows[1:], rows + rows, [(1, 1, 3), rows[1]], [(1, None, None), rows[1]]):
            self.assertIs(falls(weave, other), False)

    def test_falls_of_anything(self):
        weave = Weave(Net([0, 1], [(0, 1, 1), (0, 1, 1)]))
        settled(weave)
        self.assertIs(falls(weave, [(0, 1, 0)]), True)
        things = NO_NUMBERS + [0, nested(5000), ((0, 1, 0),), [[0, 1, 0]], [(0, 1)], [(0, 1, 0, None)], [None]]
        things += [[(False, 1, 0)], [(0, True, 0)], [(0, 1, False)], [(0, 1, None)], [(0, None, 0)], [(None, 1, 0)]]
        for part in NO_NUMBERS + [2, -1, 10**9999, nested(5000)]:
            things += [[part], [(part, 1, 0)], [(0, part, 0)], [(0, 1, part)], [(0, 1, 0), part]]
        for thing in things:
            with self.subTest():
                self.assertIs(falls(weave, thing), False)

    def test_truths_among_no_rows(self):
        weave = Weave(WOVEN)
        for thing in (False, None, (), {}, "", [[]], [()], [None]):
            self.assertIs(falls(weave, thing), False)

    def test_links_open_against_the_right_rule(self):
        # All doors are open, and none is a root door.
        weave = Weave(WOVEN, rule="hasty")
        rows = [(0, None, None), (1, None, None), (2, None, None)]
        self.assertEqual(falling(weave), rows)
        self.assertIs(falls(weave, rows), False)

    def test_a_child_that_stands_no_lower(self):
        net, way = RING_WAYS["worse"]
        weave = led(Weave(net, rule="worse"), way)
        rows = falling(weave)
        self.assertEqual(rows, [(1, 2, 1), (2, 1, 2)])
        standings = weave.standings()
        self.assertGreater(standings[1], standings[2])
        self.assertIs(falls(weave, rows), False)

    def test_a_child_that_stands_as_its_parent(self):
        # Hall 1 has got worse, hall 2 has not heard of it yet.
        weave = Weave(Net([0, 1, 2], [(0, 1, 1), (1, 2, 2), (0, 1, 3)]), rule="hasty")
        settled(weave)
        self.assertIs(falls(weave, [(0, 1, 0), (1, 2, 1)]), True)
        weave.cut(0)
        self.assertEqual(weave.standings(), {0: (0, 0), 1: (0, 3), 2: (0, 3)})
        self.assertEqual(falling(weave), [(1, 2, 1), (2, 1, 0)])
        self.assertIs(falls(weave, falling(weave)), False)

    def test_a_root_door_that_meets_an_open_door_beside(self):
        weave = Weave(Net([1, 2, 3], [(1, 2, 1), (2, 3, 5), (1, 3, 30), (1, 2, 9)]), rule="kept")
        weave.cut(3)
        settled(weave)
        led(weave, [("cut", 0), ("mend", 3), ("take", 3, 2)])
        self.assertEqual((weave.roles()[(1, 2)], weave.roles()[(1, 3)]), ("beside", "root"))
        self.assertEqual(falling(weave), [(1, None, None)])
        self.assertIs(falls(weave, [(1, None, None)]), False)

    def test_many_weaves(self):
        for rule in RULES:
            for seed in range(12):
                dice = Dice(seed)
                net = some_net(dice)
                weave = Weave(net, rule=rule)
                for _ in range(60):
                    is_done(weave, some_deed(dice, net, weave.waiting(), 20))
                    ahead = all_looks(weave)
                    rows = falling(weave)
                    self.assertEqual(rows, self.falling_by_words(weave))
                    self.assertEqual(falls(weave, rows), self.holds_by_words(weave))
                    if rule == RULES[0]:
                        self.assertTrue(falls(weave, rows))
                        self.assertTrue(peels(net, weave.open_links(), peeling(net, weave.open_links())))
                    if falls(weave, rows):
                        self.assertFalse(has_ring(net, weave.open_links()))
                    self.assertEqual(all_looks(weave), ahead)


if __name__ == "__main__":
    unittest.main()

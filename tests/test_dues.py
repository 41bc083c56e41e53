import unittest
from itertools import product

from ringless.dues import due, wrong_at
from ringless.errors import NoHall, NoLink
from ringless.nets import Net
from things import NO_NUMBERS, Case, Dice, nested, told

# A part of three halls with a short and a long way round, a part of two, and a hall by itself.
HALLS = [12, 7, 3, 40, 30, 99]
LINKS = [(7, 3, 5), (12, 7, 1), (12, 3, 6), (3, 12, 7), (40, 30, 2)]
PAPER = {3: (3, 0, None), 7: (3, 5, 0), 12: (3, 6, 2), 30: (30, 0, None), 40: (30, 2, 4), 99: (99, 0, None)}


def ordinary():
    return Net(list(HALLS), list(LINKS))


def ways(net, hall, cut, away, been=(), cost=0, begin=None):
    """All ways from a hall that come to no hall twice: (where to, sum of costs, (first hall beyond, first link))."""
    found = [(hall, cost, begin)]
    for link, (one, other, more) in enumerate(net.links()):
        if hall in (one, other) and link not in cut:
            beyond = other if hall == one else one
            if beyond not in away and beyond not in been:
                found += ways(net, beyond, cut, away, (*been, hall), cost + more, begin or (beyond, link))
    return found


def due_by_ways(net, cut, away):
    paper = {}
    for hall in net.halls():
        if hall not in away:
            found = ways(net, hall, cut, away)
            root = min(end for end, _, _ in found)
            far = min(cost for end, cost, _ in found if end == root)
            begins = [begin for end, cost, begin in found if (end, cost) == (root, far)]
            paper[hall] = (root, far, None if root == hall else min(begins)[1])
    return paper


def right_by_words(net, paper, hall, cut, away):
    """What the document calls right at a hall, by a paper of the right form."""
    best = (hall, 0, None)
    for link in sorted(net.doors(hall), key=lambda door: (net.beyond(door, hall), door)):
        beyond = net.beyond(link, hall)
        if link not in cut and beyond not in away:
            far = paper[beyond][1] + net.cost(link)
            if far <= net.most() and (paper[beyond][0], far) < best[:2]:
                best = (paper[beyond][0], far, link)
    return best


def wrong_by_words(net, paper, cut, away):
    return [hall for hall in sorted(paper) if paper[hall] != right_by_words(net, paper, hall, cut, away)]


def cases(many):
    """Nets of one to eight halls with none to twelve links, each with cut links and halls that are away."""
    for seed in range(many):
        dice = Dice(seed)
        halls = dice.some(range(1000), 1 + seed % 8)
        most = dice.pick((2, 4, 30))
        links = []
        if len(halls) > 1:
            links = [(*dice.some(halls, 2), 1 + dice.roll(most)) for _ in range(dice.roll(13))]
        cut = dice.some(range(len(links)), dice.roll(len(links) // 2 + 1))
        away = dice.some(halls, dice.roll(len(halls) // 3 + 1) if dice.roll(5) else len(halls))
        # An item may stand there more than once.
        cut, away = dice.pick(((cut, away), (cut + cut, away), (cut, away + away)))
        yield Net(halls, links), dice.pick((list, tuple))(cut), dice.pick((list, tuple))(away)


class DuePapers(Case):
    def assert_due(self, net, paper, **more):
        found = due(net, **more)
        self.assertIs(type(found), dict)
        self.assertEqual(list(found.items()), list(paper.items()))
        self.assertTrue(all(type(triple) is tuple for triple in found.values()))
        self.assertEqual(wrong_at(net, found, **more), [])

    def test_least_hall_least_sum_and_root_link(self):
        self.assert_due(ordinary(), PAPER)

    def test_one_hall(self):
        self.assert_due(Net([0], []), {0: (0, 0, None)})
        self.assert_due(Net([999], []), {999: (999, 0, None)})

    def test_no_links(self):
        self.assert_due(Net([5, 999, 0], []), {0: (0, 0, None), 5: (5, 0, None), 999: (999, 0, None)})

    def test_the_least_hall_may_be_far(self):
        links = [(7, 6, 30), (6, 5, 30), (5, 0, 30), (7, 1, 1)]
        paper = {0: (0, 0, None), 1: (0, 91, 3), 5: (0, 30, 2), 6: (0, 60, 1), 7: (0, 90, 0)}
        self.assert_due(Net([7, 6, 5, 1, 0], links), paper)

    def test_a_way_of_more_links_may_cost_less(self):
        net = Net([1, 2, 3], [(1, 3, 9), (1, 2, 4), (2, 3, 4)])
        self.assert_due(net, {1: (1, 0, None), 2: (1, 4, 1), 3: (1, 8, 2)})

    def test_alike_costs_go_by_the_least_hall_beyond(self):
        net = Net([1, 2, 3, 4], [(4, 3, 1), (4, 2, 2), (3, 1, 2), (2, 1, 1)])
        self.assertEqual(due(net)[4], (1, 3, 1))
        net = Net([1, 2, 3, 4], [(4, 3, 1), (4, 1, 3), (3, 1, 2), (2, 1, 1), (4, 2, 2)])
        self.assertEqual(due(net)[4], (1, 3, 1))

    def test_alike_halls_beyond_go_by_the_least_link(self):
        net = Net([1, 2], [(1, 2, 4), (1, 2, 3), (2, 1, 3), (1, 2, 3)])
        self.assert_due(net, {1: (1, 0, None), 2: (1, 3, 1)})

    def test_twelve_links_of_the_same_two_halls(self):
        net = Net([999, 0], [(999, 0, 30)] * 12)
        self.assert_due(net, {0: (0, 0, None), 999: (0, 30, 0)})
        self.assert_due(net, {0: (0, 0, None), 999: (0, 30, 11)}, cut=list(range(11)))
        self.assert_due(net, {0: (0, 0, None), 999: (999, 0, None)}, cut=tuple(range(12)))

    def test_a_way_as_long_as_all_costs_together(self):
        net = Net([1, 2, 3], [(3, 2, 30), (2, 1, 30)])
        self.assert_due(net, {1: (1, 0, None), 2: (1, 30, 1), 3: (1, 60, 0)})

    def test_cut_links(self):
        paper = {**PAPER, 7: (3, 7, 1)}
        self.assert_due(ordinary(), paper, cut=[0])
        self.assert_due(ordinary(), paper, cut=(0,))
        self.assert_due(ordinary(), {**PAPER, 12: (3, 6, 1)}, cut=[2, 3, 2])
        self.assert_due(ordinary(), {**PAPER, 7: (7, 0, None), 12: (7, 1, 1), 40: (40, 0, None)}, cut=(4, 3, 2, 0))

    def test_halls_that_are_away(self):
        without = {hall: PAPER[hall] for hall in (7, 12, 30, 40, 99)}
        paper = {**without, 7: (7, 0, None), 12: (7, 1, 1)}
        self.assert_due(ordinary(), paper, away=[3])
        self.assert_due(ordinary(), paper, away=(3, 3))
        self.assert_due(ordinary(), {7: (7, 0, None), 12: (7, 1, 1), 40: (40, 0, None)}, away=(99, 30, 3))

    def test_all_are_away(self):
        self.assert_due(ordinary(), {}, away=HALLS)

    def test_both(self):
        self.assert_due(ordinary(), {3: (3, 0, None), 12: (3, 7, 3)}, cut=(2,), away=[7, 40, 99, 30])

    def test_by_place_and_by_name(self):
        self.assertEqual(due(net=ordinary(), away=(), cut=()), PAPER)
        self.assertRaises(TypeError, due, ordinary(), ())
        self.assertRaises(TypeError, due, ordinary(), (), ())

    def test_all_nets_by_their_ways(self):
        for net, cut, away in cases(300):
            with self.subTest(halls=net.halls(), links=net.links(), cut=cut, away=away):
                self.assert_due(net, due_by_ways(net, cut, away), cut=cut, away=away)


class WrongHalls(Case):
    def assert_wrong(self, wrong, net, paper, **more):
        found = wrong_at(net, paper, **more)
        self.assertIs(type(found), list)
        self.assertEqual(found, wrong)

    def test_the_due_one(self):
        self.assert_wrong([], ordinary(), PAPER)

    def test_in_whatever_order(self):
        self.assert_wrong([], ordinary(), {hall: PAPER[hall] for hall in (40, 3, 99, 12, 30, 7)})

    def test_a_triple_otherwise(self):
        net = ordinary()
        self.assert_wrong([12], net, {**PAPER, 12: (3, 6, 1)})
        self.assert_wrong([12], net, {**PAPER, 12: (3, 6, None)})
        self.assert_wrong([3, 7, 12], net, {**PAPER, 3: (3, 1, None)})
        self.assert_wrong([7], net, {**PAPER, 7: (3, 6, 0)})
        self.assert_wrong([7, 12], net, {**PAPER, 7: (3, 4, 0)})
        self.assert_wrong([30, 40], net, {**PAPER, 30: (31, 0, None)})
        self.assert_wrong([99], net, {**PAPER, 99: (99, 1, None)})
        self.assert_wrong([99], net, {**PAPER, 99: (98, 0, None)})

    def test_the_own_triple_is_the_least_of_those_alike(self):
        # Hall 7 hears (7, 0) from hall 12.
        net = Net([7, 12], [(7, 12, 3), (7, 12, 3)])
        self.assert_wrong([12], net, {7: (7, 0, None), 12: (7, -3, 0)})
        self.assert_wrong([7, 12], net, {7: (7, 0, 0), 12: (7, -3, 0)})

    def test_costs_below_nothing(self):
        net = Net([7, 12], [(7, 12, 3), (7, 12, 3)])
        self.assert_wrong([12], net, {7: (7, -1, 0), 12: (7, -4, 1)})
        self.assert_wrong([7], net, {7: (-9, -10**40, 0), 12: (-9, 3 - 10**40, 0)})

    def test_the_least_hall_beyond_then_the_least_link(self):
        net = Net([1, 2, 3, 4], [(4, 3, 1), (4, 2, 1), (3, 1, 1), (2, 1, 1), (2, 4, 1)])
        paper = {1: (1, 0, None), 2: (1, 1, 3), 3: (1, 1, 2), 4: (1, 2, 1)}
        self.assert_wrong([], net, paper)
        self.assert_wrong([4], net, {**paper, 4: (1, 2, 0)})
        self.assert_wrong([4], net, {**paper, 4: (1, 2, 4)})

    def test_halls_that_hold_one_another_up(self):
        # No hall is 0, but each has heard of it by another one.
        net = Net([1, 2, 3], [(1, 2, 1), (2, 3, 1), (3, 1, 1), (1, 2, 30)])
        self.assert_wrong([1], net, {1: (0, 8, 2), 2: (0, 9, 0), 3: (0, 9, 2)})
        self.assert_wrong([1, 2], net, {1: (0, 8, 0), 2: (0, 8, 0), 3: (0, 9, 2)})
        self.assert_wrong([1, 2, 3], net, {1: (0, 8, 0), 2: (0, 8, 1), 3: (0, 8, 2)})
        self.assert_wrong([1], net, {1: (-1, 8, 2), 2: (-1, 9, 0), 3: (-1, 9, 2)})
        self.assert_wrong([3], net, {1: (1, 0, None), 2: (1, 1, 0), 3: (0, 40, 2)})

    def test_costs_at_the_most_count(self):
        net = Net([1, 2, 3], [(1, 2, 3), (2, 3, 4)])
        self.assert_wrong([1], net, {1: (0, 0, 0), 2: (0, 3, 0), 3: (0, 7, 1)})
        self.assert_wrong([1, 3], net, {1: (0, 4, 0), 2: (0, 7, 0), 3: (0, 11, 1)})

    def test_costs_beyond_the_most_do_not(self):
        net = Net([1, 2, 3], [(1, 2, 3), (2, 3, 4)])
        self.assert_wrong([1, 3], net, {1: (0, 1, 0), 2: (0, 4, 0), 3: (0, 8, 1)})
        self.assert_wrong([1], net, {1: (0, 1, 0), 2: (0, 4, 0), 3: (3, 0, None)})
        self.assert_wrong([1, 2], net, {1: (0, 5, 0), 2: (0, 8, 0), 3: (3, 0, None)})
        self.assert_wrong([1], net, {1: (0, 5, 0), 2: (2, 0, None), 3: (2, 4, 1)})

    def test_the_most_is_of_all_links_also_of_those_that_do_not_run(self):
        net = Net([1, 2, 3], [(1, 2, 3), (2, 3, 4)])
        self.assert_wrong([1], net, {1: (0, 4, 0), 2: (0, 7, 0), 3: (3, 0, None)}, cut=[1])
        self.assert_wrong([1], net, {1: (0, 4, 0), 2: (0, 7, 0)}, away=[3])

    def test_what_does_not_run_is_not_heard(self):
        net = ordinary()
        paper = {**PAPER, 7: (3, 7, 1)}
        self.assert_wrong([7], net, PAPER, cut=[0])
        self.assert_wrong([], net, paper, cut=(0,))
        self.assert_wrong([7], net, paper)
        paper = {7: (7, 0, None), 12: (7, 1, 1), 30: (30, 0, None), 40: (30, 2, 4), 99: (99, 0, None)}
        self.assert_wrong([], net, paper, away=(3,))
        self.assert_wrong([7, 12], net, {hall: PAPER[hall] for hall in paper}, away=[3])

    def test_by_place_and_by_name(self):
        self.assertEqual(wrong_at(paper=PAPER, away=[], net=ordinary(), cut=()), [])
        self.assertRaises(TypeError, wrong_at, ordinary(), PAPER, ())

    def test_papers_otherwise_of_many_nets(self):
        for seed, (net, cut, away) in enumerate(cases(300)):
            dice = Dice(seed)
            due_one = due_by_ways(net, cut, away)
            for _ in range(4 if due_one else 0):
                paper = dict(due_one)
                for hall in dice.some(paper, 1 + dice.roll(len(paper))):
                    root, far, link = paper[hall]
                    root = dice.pick((root, root, root - 1, root + 1, dice.pick(net.halls()), hall))
                    far = dice.pick((far, far, far - 1, far + 1, 0, net.most(), dice.roll(net.most() + 3)))
                    paper[hall] = (root, far, dice.pick((link, None, *net.doors(hall))))
                with self.subTest(halls=net.halls(), links=net.links(), cut=cut, away=away, paper=paper):
                    wrong = wrong_by_words(net, paper, cut, away)
                    self.assert_wrong(wrong, net, paper, cut=cut, away=away)
                    self.assertEqual(wrong == [], paper == due_one)

    def test_only_the_due_one_is_right_everywhere(self):
        nets = [
            (Net([1, 2], [(1, 2, 1), (2, 1, 1)]), range(-1, 4), range(-2, 4), (None, 0, 1)),
            (Net([1, 2, 3], [(1, 2, 1), (2, 3, 1), (3, 1, 1)]), range(0, 3), range(0, 4), (None, 0, 1, 2)),
        ]
        for net, roots, fars, links in nets:
            doors = [[link for link in links if link is None or link in net.doors(hall)] for hall in net.halls()]
            triples = [list(product(roots, fars, some)) for some in doors]
            right = [
                paper
                for paper in (dict(zip(net.halls(), row)) for row in product(*triples))
                if wrong_at(net, paper) == []
            ]
            self.assertEqual(right, [due_by_ways(net, (), ())])


class NoPapers(Case):
    def assert_none(self, paper, **more):
        net = ordinary()
        away = more.get("away", ())
        with self.subTest():
            self.assertEqual(wrong_at(net, paper, **more), [hall for hall in net.halls() if hall not in away])

    def test_of_anything(self):
        things = NO_NUMBERS + [0, 7, 10**9999, nested(100000), list(PAPER), list(PAPER.items()), tuple(PAPER.items())]
        for thing in things + [{}, set(PAPER), 1.5, object()]:
            self.assert_none(thing)
            self.assert_none(thing, away=[3, 40])

    def test_a_hall_left_out(self):
        for hall in PAPER:
            self.assert_none({other: PAPER[other] for other in PAPER if other != hall})

    def test_one_more(self):
        for more in (0, 4, 1000, -1, 10**30, True, False, None, "", "3", (), (3,), b"3", 2.5):
            self.assert_none({**PAPER, more: (3, 0, None)})
            self.assert_none({more: (3, 0, None), **PAPER})

    def test_a_hall_that_is_away(self):
        self.assert_none(PAPER, away=[99])
        self.assert_none({hall: PAPER[hall] for hall in (3, 7, 12, 30, 40)})

    def test_another_hall(self):
        for hall in PAPER:
            for other in (4, str(hall), (hall,), None, float(hall) + 0.5):
                self.assert_none({other if key == hall else key: triple for key, triple in PAPER.items()})

    def test_a_truth_is_no_hall(self):
        net = Net([0, 1], [(0, 1, 1)])
        self.assertEqual(wrong_at(net, {0: (0, 0, None), 1: (0, 1, 0)}), [])
        self.assertEqual(wrong_at(net, {0: (0, 0, None), True: (0, 1, 0)}), [0, 1])
        self.assertEqual(wrong_at(net, {False: (0, 0, None), 1: (0, 1, 0)}), [0, 1])
        self.assertEqual(wrong_at(net, {0.0: (0, 0, None), 1: (0, 1, 0)}), [0, 1])

    def test_triples_of_anything(self):
        things = NO_NUMBERS + [3, (3, 5), (3, 5, 0, 0), [3, 5, 0], (3, 5, 0, None), "350", {3: 5, 5: 0, 0: 3}]
        for thing in things + [((3, 5, 0),), nested(100000), 1.5]:
            self.assert_none({**PAPER, 7: thing})

    def test_roots_and_costs_of_anything(self):
        for thing in NO_NUMBERS + [nested(100000), 5.0]:
            self.assert_none({**PAPER, 7: (thing, 5, 0)})
            self.assert_none({**PAPER, 7: (3, thing, 0)})

    def test_truths_in_a_triple(self):
        net = Net([0, 1], [(1, 0, 1), (0, 1, 1)])
        self.assertEqual(wrong_at(net, {0: (0, 0, None), 1: (0, 1, 0)}), [])
        for triple in ((False, 1, 0), (0, True, 0), (0, 1, False), (0, 1, True)):
            self.assertEqual(wrong_at(net, {0: (0, 0, None), 1: triple}), [0, 1])
        for triple in ((False, 0, None), (0, False, None), (0, 0, False)):
            self.assertEqual(wrong_at(net, {0: triple, 1: (0, 1, 0)}), [0, 1])

    def test_a_link_that_is_none_of_the_hall(self):
        for thing in NO_NUMBERS + [2, 3, 4, 5, -1, 12, 10**30, nested(100000), 0.0]:
            if thing is not None:
                self.assert_none({**PAPER, 7: (3, 5, thing)})
        for thing in (0, 4, -1):
            self.assert_none({**PAPER, 99: (99, 0, thing)})

    def test_a_link_of_the_hall_that_does_not_run_is_one(self):
        net = ordinary()
        paper = {**PAPER, 7: (3, 7, 1)}
        self.assertEqual(wrong_at(net, {**paper, 7: (3, 7, 0)}, cut=[0]), [7])
        paper = {hall: PAPER[hall] for hall in (3, 7, 12, 40, 99)}
        self.assertEqual(wrong_at(net, {**paper, 40: (40, 0, 4)}, away=[30]), [40])

    def test_one_hall_of_the_wrong_form_is_enough(self):
        self.assert_none({**PAPER, 99: (99, 0)})
        self.assert_none({**PAPER, 3: [3, 0, None]})

    def test_all_are_away(self):
        net = ordinary()
        for thing in [{}, PAPER] + NO_NUMBERS:
            self.assertEqual(wrong_at(net, thing, away=HALLS), [])


class Refusals(Case):
    def calls(self):
        """Both functions, wrong_at with the due paper and with no paper."""
        return [
            due,
            lambda net, **more: wrong_at(net, PAPER, **more),
            lambda net, **more: wrong_at(net, None, **more),
            lambda net, **more: wrong_at(net, paper=[], **more),
        ]

    def test_cut_of_no_link(self):
        for call in self.calls():
            for thing in NO_NUMBERS + [-1, 5, 12, 10**9999, nested(5000)]:
                with self.subTest():
                    self.refused_number(NoLink, thing, call, ordinary(), cut=[thing])
                    self.refused_number(NoLink, thing, call, ordinary(), cut=(0, 4, thing))

    def test_away_of_no_hall(self):
        for call in self.calls():
            for thing in NO_NUMBERS + [-1, 0, 4, 1000, 10**9999, nested(5000)]:
                with self.subTest():
                    self.refused_number(NoHall, thing, call, ordinary(), away=[thing])
                    self.refused_number(NoHall, thing, call, ordinary(), away=(3, 99, thing))

    def test_a_truth_is_no_link_and_no_hall(self):
        net = Net([0, 1], [(0, 1, 1), (0, 1, 1)])
        for thing in (True, False):
            self.refused_number(NoLink, thing, due, net, cut=[0, 1, thing])
            self.refused_number(NoHall, thing, due, net, away=(0, 1, thing))

    def test_of_several_the_first(self):
        for call in self.calls():
            self.refused_number(NoLink, 7, call, ordinary(), cut=[0, 7, None, 5])
            self.refused_number(NoLink, "0", call, ordinary(), cut=("0", -1))
            self.refused_number(NoHall, 8, call, ordinary(), away=[7, 8, None, 9])
            self.refused_number(NoHall, (), call, ordinary(), away=((), []))

    def test_no_link_comes_ahead_of_no_hall(self):
        for call in self.calls():
            self.refused_number(NoLink, 5, call, ordinary(), cut=[0, 5], away=[None, 8])
            self.refused_number(NoLink, None, call, ordinary(), away=(8,), cut=(None,))

    def test_no_list_and_no_tuple(self):
        for call in self.calls():
            for thing in (None, 0, 3, True, "", "0", {}, {0: 3}):
                with self.subTest():
                    self.refused_number(NoLink, thing, call, ordinary(), cut=thing)
                    self.refused_number(NoHall, thing, call, ordinary(), away=thing)

    def test_what_is_handed_in_stays_and_nothing_hangs_on_it(self):
        thing = [0, [1]]
        cut = [0, thing]
        for call in self.calls():
            with self.assertRaises(NoLink) as caught:
                call(ordinary(), cut=cut, away=[3])
            self.assertEqual(cut, [0, [0, [1]]])
            thing[1].append(2)
            self.assertEqual(caught.exception.number, [0, [1]])
            thing[1].pop()


class Hanging(Case):
    def test_what_is_handed_in_stays(self):
        net = ordinary()
        cut = [0, 3]
        away = [99, 30]
        paper = {hall: [hall, {hall: ()}] for hall in PAPER}
        due(net, cut=cut, away=away)
        wrong_at(net, paper, cut=cut, away=away)
        self.assertEqual((cut, away), ([0, 3], [99, 30]))
        self.assertEqual(paper, {hall: [hall, {hall: ()}] for hall in PAPER})
        paper = {hall: PAPER[hall] for hall in reversed(PAPER)}
        wrong_at(net, paper)
        self.assertEqual(list(paper.items()), list(reversed(PAPER.items())))
        self.assertEqual(net, ordinary())

    def test_told_papers_are_new(self):
        net = ordinary()
        found = due(net)
        found[7] = (0, 0, None)
        del found[3]
        found[1] = None
        self.assertEqual(due(net), PAPER)
        self.assertEqual(wrong_at(net, found), net.halls())
        self.assertEqual(wrong_at(net, PAPER), [])

    def test_told_lists_are_new(self):
        net = ordinary()
        for paper, wrong in ((None, net.halls()), ({**PAPER, 7: (3, 6, 0)}, [7]), (PAPER, [])):
            found = wrong_at(net, paper)
            found.append(5)
            found.reverse()
            self.assertEqual(wrong_at(net, paper), wrong)

    def test_a_paper_is_read_each_time_anew(self):
        net = ordinary()
        paper = dict(PAPER)
        self.assertEqual(wrong_at(net, paper), [])
        paper[7] = (3, 6, 0)
        self.assertEqual(wrong_at(net, paper), [7])
        cut = [0]
        self.assertEqual(due(net, cut=cut)[7], (3, 7, 1))
        cut.clear()
        self.assertEqual(due(net, cut=cut)[7], (3, 5, 0))

    def test_links_in_papers_are_numbers(self):
        for triple in due(ordinary()).values():
            self.assertEqual([told(part)[0] for part in triple[:2]], ["int", "int"])
            self.assertIn(told(triple[2])[0], ("int", "NoneType"))


if __name__ == "__main__":
    unittest.main()

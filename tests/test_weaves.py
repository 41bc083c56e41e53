import unittest

from plain import RING_WAYS, PlainWeave, all_looks, has_ring, is_done, led, settled_by, some_deed, some_net, weave_looks
from ringless.errors import (
    Cut,
    NoDeed,
    NoHall,
    NoLetter,
    NoLink,
    NoRule,
    RingError,
    Runs,
    Stands,
    Stopped,
)
from ringless.nets import Net
from ringless.rules import RIGHT, RULES
from ringless.weaves import Weave
from things import NO_NUMBERS, Case, Dice, nested

# Two links between halls 3 and 7, one from 7 to 5; hall 9 by itself.
HALLS = [7, 3, 9, 5]
LINKS = [(7, 3, 2), (5, 7, 1), (3, 7, 4)]
NO_LINKS = NO_NUMBERS + [-1, 3, 12, 10**9999, nested(5000)]
NO_HALLS = NO_NUMBERS + [-1, 0, 4, 1000, 10**9999, nested(5000)]
# What makes hall 7 stand at (3, 2), and hall 5 know of it.
FIRST = [("take", 0, 7), ("take", 2, 7), ("take", 1, 5), ("take", 1, 5)]


def ordinary():
    return Net(list(HALLS), list(LINKS))


def woven(*deeds, rule=RIGHT):
    return led(Weave(ordinary(), rule=rule), deeds)


class Starting(Case):
    def test_all_halls_start_and_all_links_run(self):
        weave = Weave(ordinary())
        self.assertEqual(all_looks(weave), {
            "letters": {
                (0, 3): [("say", 1, 7, 0)],
                (0, 7): [("say", 1, 3, 0)],
                (1, 5): [("say", 1, 7, 0)],
                (1, 7): [("say", 1, 5, 0)],
                (2, 3): [("say", 1, 7, 0)],
                (2, 7): [("say", 1, 3, 0)],
            },
            "standings": {3: (3, 0), 5: (5, 0), 7: (7, 0), 9: (9, 0)},
            "roles": {door: "leads" for door in ((0, 3), (0, 7), (1, 5), (1, 7), (2, 3), (2, 7))},
            "open_doors": [],
            "open_links": [],
            "cuts": [],
            "away": [],
            "net": LINKS,
            "waiting": [(0, 3), (0, 7), (1, 5), (1, 7), (2, 3), (2, 7)],
            "log": [],
            "notes": [],
        })

    def test_dicts_rise(self):
        weave = woven(("stop", 3), ("stop", 7), ("start", 7), ("start", 3))
        self.assertEqual(list(weave.standings()), [3, 5, 7, 9])
        self.assertEqual(list(weave.roles()), [(0, 3), (0, 7), (1, 5), (1, 7), (2, 3), (2, 7)])
        self.assertEqual(list(weave.letters()), [(0, 3), (0, 7), (1, 5), (1, 7), (2, 3), (2, 7)])

    def test_one_hall(self):
        weave = Weave(Net([4], []))
        self.assertEqual(weave_looks(weave), {
            "letters": {},
            "standings": {4: (4, 0)},
            "roles": {},
            "open_doors": [],
            "open_links": [],
            "cuts": [],
            "away": [],
        })
        weave.stop(4)
        self.assertEqual((weave.standings(), weave.away()), ({}, [4]))
        weave.start(4)
        self.assertEqual((weave.standings(), weave.away()), ({4: (4, 0)}, []))

    def test_the_net(self):
        self.assertEqual(Weave(ordinary()).net(), ordinary())
        self.assertEqual(Weave(net=ordinary(), rule="hasty").net(), ordinary())

    def test_by_name(self):
        weave = Weave(ordinary())
        weave.take(hall=7, link=0)
        weave.cut(link=0)
        weave.mend(link=0)
        weave.stop(hall=9)
        weave.start(hall=9)
        weave.do(deeds=[("stop", 9)])
        self.assertEqual(len(weave.log()), 6)
        self.assertRaises(TypeError, Weave, ordinary(), RIGHT)

    def test_by_a_rule(self):
        self.assertEqual(Weave(ordinary(), rule="hasty").open_links(), [0, 1, 2])
        for rule in RULES[2:]:
            self.assertEqual(Weave(ordinary(), rule=rule).open_links(), [])

    def test_no_rule(self):
        for thing in NO_NUMBERS + ["Right", "rights", 0, nested(5000), list(RULES), RULES]:
            with self.subTest():
                self.assertEqual(self.refused(NoRule, Weave, ordinary(), rule=thing), {})

    def test_the_most_is_the_nets(self):
        # Hall 7 hears of hall 3 round by hall 5, at last from beyond most, which is 7.
        weave = woven()
        settled_by(weave, [5, 3, 4])
        self.assertEqual(weave.standings(), {3: (3, 0), 5: (3, 3), 7: (3, 2), 9: (9, 0)})
        weave = Weave(Net([1, 2, 3], [(1, 2, 1), (2, 3, 1), (2, 3, 1)]))
        settled_by(weave, [])
        weave.cut(0)
        found = set()
        while weave.waiting():
            weave.take(*weave.waiting()[-1])
            found.update(weave.standings().values())
        self.assertEqual(max(far for root, far in found), 3)
        self.assertEqual(weave.standings(), {1: (1, 0), 2: (2, 0), 3: (2, 1)})


class Taking(Case):
    def test_the_first_letter_that_comes(self):
        weave = woven(("take", 0, 7))
        self.assertEqual(weave.letters(), {
            (0, 3): [("say", 1, 7, 0), ("say", 2, 3, 2), ("agree", 1)],
            (1, 5): [("say", 1, 7, 0), ("say", 2, 3, 2)],
            (1, 7): [("say", 1, 5, 0)],
            (2, 3): [("say", 1, 7, 0), ("say", 2, 3, 2)],
            (2, 7): [("say", 1, 3, 0)],
        })
        self.assertEqual(weave.standings(), {3: (3, 0), 5: (5, 0), 7: (3, 2), 9: (9, 0)})
        self.assertEqual(weave.open_doors(), [(0, 7)])
        self.assertEqual(weave.open_links(), [])
        weave.take(0, 3)
        weave.take(0, 3)
        self.assertEqual(weave.letters()[(0, 3)], [("agree", 1)])
        weave.take(0, 3)
        self.assertEqual(weave.open_doors(), [(0, 3), (0, 7)])
        self.assertEqual(weave.open_links(), [0])

    def test_roles(self):
        weave = woven(*FIRST)
        self.assertEqual(weave.roles(), {
            (0, 3): "leads",
            (0, 7): "root",
            (1, 5): "root",
            (1, 7): "leads",
            (2, 3): "leads",
            (2, 7): "beside",
        })

    def test_they_give_none(self):
        weave = Weave(ordinary())
        given = [weave.take(0, 7), weave.cut(0), weave.mend(0), weave.stop(3), weave.start(3), weave.do([])]
        self.assertEqual(given, [None] * 6)


class CuttingAndMending(Case):
    def test_letters_on_it_are_lost_and_both_halls_cut(self):
        weave = woven(*FIRST, ("cut", 0))
        self.assertEqual(weave.letters(), {
            (1, 5): [("say", 3, 3, 4)],
            (1, 7): [("say", 1, 5, 0), ("say", 2, 3, 3), ("agree", 2)],
            (2, 3): [("say", 1, 7, 0), ("say", 2, 3, 2), ("agree", 1), ("say", 3, 3, 4)],
        })
        self.assertEqual(weave.standings(), {3: (3, 0), 5: (3, 3), 7: (3, 4), 9: (9, 0)})
        roles = weave.roles()
        self.assertEqual([roles[(0, 3)], roles[(0, 7)], roles[(2, 7)]], ["cut", "cut", "root"])
        self.assertEqual((weave.cuts(), weave.waiting()), ([0], [(1, 5), (1, 7), (2, 3)]))

    def test_both_halls_mend(self):
        weave = woven(*FIRST, ("cut", 0), ("mend", 0))
        self.assertEqual(weave.letters()[(0, 3)], [("say", 1, 3, 4)])
        self.assertEqual(weave.letters()[(0, 7)], [("say", 1, 3, 0)])
        self.assertEqual((weave.roles()[(0, 3)], weave.roles()[(0, 7)]), ("leads", "leads"))
        self.assertEqual((weave.cuts(), weave.standings()[7]), ([], (3, 4)))
        self.assertNotIn((0, 3), weave.open_doors())

    def test_cuts_rise(self):
        weave = woven(("cut", 2), ("cut", 0))
        self.assertEqual(weave.cuts(), [0, 2])
        weave.cut(1)
        self.assertEqual(weave.cuts(), [0, 1, 2])
        self.assertEqual(set(weave.roles().values()), {"cut"})

    def test_a_link_of_a_stopped_hall(self):
        weave = woven(*FIRST, ("stop", 3))
        looks = weave_looks(weave)
        weave.cut(0)
        self.assertEqual(weave_looks(weave), {**looks, "cuts": [0]})
        weave.mend(0)
        self.assertEqual(weave_looks(weave), looks)
        weave.cut(2)
        weave.start(3)
        self.assertEqual(weave.roles()[(2, 3)], "cut")
        self.assertEqual(weave.roles()[(2, 7)], "cut")
        self.assertEqual(weave.roles()[(0, 7)], "leads")
        weave.mend(2)
        self.assertEqual(weave.letters()[(2, 7)], [("say", 1, 3, 0)])

    def test_a_link_of_two_stopped_halls(self):
        weave = woven(("stop", 3), ("cut", 0), ("stop", 7), ("mend", 0), ("cut", 2), ("start", 3))
        self.assertEqual(weave.letters(), {})
        weave.start(7)
        self.assertEqual(weave.waiting(), [(0, 3), (0, 7), (1, 5), (1, 7)])


class StoppingAndStarting(Case):
    def test_a_stopped_hall_knows_nothing(self):
        weave = woven(*FIRST, ("stop", 7))
        self.assertEqual(weave_looks(weave), {
            "letters": {},
            "standings": {3: (3, 0), 5: (5, 0), 9: (9, 0)},
            "roles": {(0, 3): "cut", (1, 5): "cut", (2, 3): "cut"},
            "open_doors": [],
            "open_links": [],
            "cuts": [],
            "away": [7],
        })

    def test_halls_beyond_cut_in_rising_order_of_links(self):
        # By link 0 hall 7 stands at (3, 2), by link 2 at (3, 4): it says both worse standings to hall 5.
        weave = woven(("take", 0, 7), ("take", 2, 7), ("stop", 3))
        self.assertEqual(weave.letters(), {
            (1, 5): [("say", 1, 7, 0), ("say", 2, 3, 2), ("say", 3, 3, 4), ("say", 4, 7, 0)],
            (1, 7): [("say", 1, 5, 0)],
        })

    def test_what_is_said_meanwhile_on_its_links_is_lost(self):
        weave = woven(("take", 0, 7), ("take", 2, 7), ("stop", 3))
        self.assertEqual(weave.waiting(), [(1, 5), (1, 7)])
        weave.start(3)
        self.assertEqual(weave.letters()[(2, 3)], [("say", 1, 7, 0)])
        self.assertEqual(weave.letters()[(2, 7)], [("say", 1, 3, 0)])

    def test_only_doors_that_ran_are_cut(self):
        weave = woven(*FIRST, ("cut", 0), ("stop", 3))
        self.assertEqual(weave.standings(), {5: (3, 3), 7: (7, 0), 9: (9, 0)})
        weave = woven(("stop", 7), ("stop", 3), ("stop", 5))
        self.assertEqual((weave.standings(), weave.away()), ({9: (9, 0)}, [3, 5, 7]))

    def test_a_hall_starts(self):
        weave = woven(*FIRST, ("stop", 3), ("take", 1, 7), ("start", 3))
        self.assertEqual(weave.standings(), {3: (3, 0), 5: (3, 3), 7: (5, 1), 9: (9, 0)})
        self.assertEqual(weave.letters()[(0, 3)], [("say", 1, 5, 1)])
        self.assertEqual(weave.letters()[(0, 7)], [("say", 1, 3, 0)])
        self.assertEqual(weave.letters()[(2, 3)], [("say", 1, 5, 1)])
        self.assertEqual(weave.away(), [])

    def test_by_links_that_run_alone(self):
        weave = woven(("stop", 7), ("stop", 3), ("cut", 2), ("start", 7))
        self.assertEqual(weave.letters(), {(1, 5): [("say", 1, 7, 0)], (1, 7): [("say", 1, 5, 0)]})
        self.assertEqual(weave.roles(), {(0, 7): "cut", (1, 5): "leads", (1, 7): "leads", (2, 7): "cut"})
        weave.start(3)
        self.assertEqual(weave.letters()[(0, 3)], [("say", 1, 7, 0)])
        self.assertEqual(weave.waiting(), [(0, 3), (0, 7), (1, 5), (1, 7)])

    def test_away_rises(self):
        weave = woven(("stop", 9), ("stop", 5), ("stop", 3))
        self.assertEqual(weave.away(), [3, 5, 9])
        weave.start(5)
        self.assertEqual(weave.away(), [3, 9])


class Doing(Case):
    def test_all(self):
        deeds = [("take", 0, 7), ("cut", 1), ("stop", 3), ("start", 3), ("mend", 1), ("take", 1, 5)]
        weave = Weave(ordinary())
        weave.do(deeds)
        self.assertEqual(weave_looks(weave), weave_looks(woven(*deeds)))
        self.assertEqual(weave.log(), deeds)
        self.assertEqual(weave.notes(), [("begin", 6), ("end", True)])

    def test_no_deeds(self):
        weave = Weave(ordinary())
        weave.do([])
        self.assertEqual((weave.log(), weave.notes()), ([], [("begin", 0), ("end", True)]))

    def test_or_none(self):
        weave = woven(*FIRST, ("cut", 1))
        ahead = all_looks(weave)
        rows = [
            (NoLink, 3, [("cut", 0), ("cut", 3)]),
            (NoHall, 4, [("stop", 3), ("mend", 1), ("stop", 4)]),
            (Cut, 0, [("cut", 0), ("cut", 0)]),
            (Runs, 1, [("mend", 1), ("take", 1, 5), ("mend", 1), ("cut", 1)]),
            (Stopped, 3, [("stop", 3), ("stop", 3)]),
            (Stands, 9, [("stop", 9), ("start", 9), ("start", 9)]),
        ]
        for many, (error, number, deeds) in enumerate(rows, 1):
            self.refused_number(error, number, weave.do, deeds)
            notes = [("begin", len(deeds)), ("end", False)]
            self.assertEqual(weave.notes()[2 * many - 2 :], notes)
            self.assertEqual({**all_looks(weave), "notes": []}, ahead)
        # What was ahead still goes on as it did.
        weave.do([("mend", 1), ("take", 1, 7)])
        self.assertEqual(weave.standings()[7], (3, 2))
        self.assertEqual(weave.notes()[-2:], [("begin", 2), ("end", True)])
        self.assertEqual(len(weave.notes()), 14)

    def test_no_letter(self):
        weave = woven()
        deeds = [("take", 0, 7), ("take", 0, 7)]
        self.assertEqual(self.refused(NoLetter, weave.do, deeds), {"link": 0, "hall": 7})
        self.assertEqual(all_looks(weave), {**all_looks(woven()), "notes": [("begin", 2), ("end", False)]})

    def test_no_deed_at_all_leaves_no_notes(self):
        weave = woven(*FIRST)
        ahead = all_looks(weave)
        good = ("cut", 0)
        things = NO_NUMBERS + [0, nested(5000), ["cut", 0], ("cut",), ("cut", 0, 7), ("take", 0), ("take", 0, 7, 1)]
        things += [("mend",), ("stop", 3, 0), ("start",), ("Cut", 0), ("cut ", 0), ("flush", 0, 7), ("", 0), (0, 7)]
        things += [(None, 0), (["cut"], 0), ({}, 0), (("cut",), 0), (("cut", 0),), (True, 0), (nested(5000), 0), "cut"]
        for thing in things:
            for place, deeds in enumerate(([thing], [good, thing], [good, ("cut", 99), thing, None, thing])):
                with self.subTest():
                    self.assertEqual(self.refused(NoDeed, weave.do, deeds), {"at": place})
        self.assertEqual(all_looks(weave), ahead)

    def test_no_list(self):
        weave = woven(*FIRST)
        ahead = all_looks(weave)
        for thing in (None, 0, True, "", "cut", (), ("cut", 0), (("cut", 0),), {}, {0: ("cut", 0)}):
            self.assertEqual(self.refused(NoDeed, weave.do, thing), {"at": 0})
        self.assertEqual(all_looks(weave), ahead)

    def test_things_of_a_deed_may_be_anything(self):
        for thing in NO_LINKS:
            weave = woven()
            with self.subTest():
                self.refused_number(NoLink, thing, weave.do, [("cut", thing)])
                self.refused_number(NoLink, thing, weave.do, [("mend", thing)])
                self.refused_number(NoLink, thing, weave.do, [("take", thing, thing)])
                self.assertEqual(weave.notes(), [("begin", 1), ("end", False)] * 3)
        for thing in NO_HALLS:
            weave = woven()
            with self.subTest():
                self.refused_number(NoHall, thing, weave.do, [("stop", thing)])
                self.refused_number(NoHall, thing, weave.do, [("start", thing)])
                self.refused_number(NoHall, thing, weave.do, [("take", 0, thing)])
                self.assertEqual(weave.notes(), [("begin", 1), ("end", False)] * 3)

    def test_deeds_alone_leave_no_notes(self):
        weave = woven(*FIRST)
        self.refused(Cut, led, weave, [("cut", 1), ("cut", 1)])
        self.assertEqual(weave.notes(), [])

    def test_what_is_handed_in_stays(self):
        deeds = [("cut", 0), ("stop", 7)]
        weave = woven()
        weave.do(deeds)
        self.assertEqual(deeds, [("cut", 0), ("stop", 7)])
        deeds.append(("start", 7))
        self.assertEqual(weave.log(), [("cut", 0), ("stop", 7)])
        self.assertEqual(weave.notes(), [("begin", 2), ("end", True)])


class Refusals(Case):
    def filled(self):
        weave = woven(*FIRST, ("cut", 1), ("stop", 9))
        weave.do([("take", 0, 3)])
        return weave

    def assert_refused(self, error, found, call, *args):
        weave = self.filled()
        self.assertEqual(self.refused(error, getattr(weave, call), *args), found)
        self.assertEqual(all_looks(weave), all_looks(self.filled()))

    def test_no_link(self):
        weave = self.filled()
        for thing in NO_LINKS:
            with self.subTest():
                self.refused_number(NoLink, thing, weave.take, thing, 7)
                self.refused_number(NoLink, thing, weave.take, thing, 4)
                self.refused_number(NoLink, thing, weave.cut, thing)
                self.refused_number(NoLink, thing, weave.mend, thing)
        self.assertEqual(all_looks(weave), all_looks(self.filled()))

    def test_no_hall(self):
        weave = self.filled()
        for thing in NO_HALLS:
            with self.subTest():
                self.refused_number(NoHall, thing, weave.take, 0, thing)
                self.refused_number(NoHall, thing, weave.stop, thing)
                self.refused_number(NoHall, thing, weave.start, thing)
        self.assertEqual(all_looks(weave), all_looks(self.filled()))

    def test_no_hall_that_the_link_joins(self):
        self.assert_refused(NoHall, {"number": 5}, "take", 0, 5)
        self.assert_refused(NoHall, {"number": 9}, "take", 2, 9)
        self.assert_refused(NoHall, {"number": 3}, "take", 1, 3)

    def test_a_truth_is_no_link_and_no_hall(self):
        weave = Weave(Net([0, 1], [(0, 1, 1), (0, 1, 1)]))
        for thing in (True, False):
            for call in (weave.cut, weave.mend, lambda link: weave.take(link, 0)):
                self.refused_number(NoLink, thing, call, thing)
            for call in (weave.stop, weave.start, lambda hall: weave.take(0, hall)):
                self.refused_number(NoHall, thing, call, thing)

    def test_no_letter(self):
        self.assert_refused(NoLetter, {"link": 0, "hall": 7}, "take", 0, 7)
        self.assert_refused(NoLetter, {"link": 1, "hall": 5}, "take", 1, 5)
        weave = woven(("stop", 7))
        self.assertEqual(self.refused(NoLetter, weave.take, 0, 7), {"link": 0, "hall": 7})
        self.assertEqual(self.refused(NoLetter, weave.take, 0, 3), {"link": 0, "hall": 3})

    def test_cut_and_runs(self):
        self.assert_refused(Cut, {"number": 1}, "cut", 1)
        self.assert_refused(Runs, {"number": 0}, "mend", 0)
        self.assert_refused(Runs, {"number": 2}, "mend", 2)

    def test_runs_of_a_link_that_is_not_cut_though_a_hall_is_stopped(self):
        weave = woven(("stop", 7))
        self.refused_number(Runs, 0, weave.mend, 0)
        weave.cut(0)
        self.refused_number(Cut, 0, weave.cut, 0)
        weave.mend(0)
        self.refused_number(Runs, 0, weave.mend, 0)

    def test_stopped_and_stands(self):
        self.assert_refused(Stopped, {"number": 9}, "stop", 9)
        for hall in (3, 5, 7):
            self.assert_refused(Stands, {"number": hall}, "start", hall)


class Looks(Case):
    def test_log_tells_all_deeds_done(self):
        weave = woven(*FIRST, ("cut", 1))
        weave.do([("stop", 9), ("mend", 1)])
        self.refused(Stopped, weave.stop, 9)
        weave.start(9)
        self.assertEqual(weave.log(), FIRST + [("cut", 1), ("stop", 9), ("mend", 1), ("start", 9)])
        self.assertTrue(all(type(deed) is tuple for deed in weave.log()))

    def test_told_lists_and_dicts_are_new(self):
        weave = woven(*FIRST, ("cut", 1), ("stop", 9))
        weave.do([("take", 0, 3)])
        ahead = all_looks(weave)
        for told in (weave.letters(), weave.standings(), weave.roles()):
            told.clear()
        weave.letters()[(0, 3)].clear()
        lists = (weave.waiting(), weave.open_doors(), weave.open_links(), weave.cuts(), weave.away())
        for told in lists + (weave.log(), weave.notes()):
            told.append(0)
        self.assertEqual(all_looks(weave), ahead)

    def test_kinds(self):
        weave = woven(*FIRST, ("cut", 0), ("stop", 9))
        weave.do([])
        for told in (weave.letters(), weave.standings(), weave.roles()):
            self.assertIs(type(told), dict)
        for told in (weave.waiting(), weave.open_doors(), weave.cuts(), weave.away(), weave.log(), weave.notes()):
            self.assertIs(type(told), list)
        for told in (weave.waiting()[0], weave.open_doors()[0], weave.standings()[3], weave.notes()[0]):
            self.assertIs(type(told), tuple)

    def test_open_links_are_those_of_which_both_doors_are_open(self):
        weave = woven(("take", 0, 7), ("take", 0, 3), ("take", 0, 3))
        self.assertEqual((weave.open_doors(), weave.open_links()), ([(0, 7)], []))
        weave.take(0, 3)
        self.assertEqual((weave.open_doors(), weave.open_links()), ([(0, 3), (0, 7)], [0]))
        weave.take(1, 5)
        weave.take(1, 5)
        self.assertEqual((weave.open_doors(), weave.open_links()), ([(0, 3), (0, 7), (1, 5)], [0]))

    def test_posted_by_the_last_deed(self):
        weave = woven()
        self.assertEqual(len(weave.posted()), 6)
        weave.take(0, 7)
        posted = [(0, 7, ("say", 2, 3, 2)), (0, 7, ("agree", 1)), (1, 7, ("say", 2, 3, 2)), (2, 7, ("say", 2, 3, 2))]
        self.assertEqual(weave.posted(), posted)
        weave.posted().clear()
        twin = weave.twin()
        self.assertEqual((weave.posted(), twin.posted()), (posted, posted))
        self.refused(Cut, weave.do, [("cut", 0), ("cut", 0)])
        self.assertEqual(weave.posted(), posted)
        self.refused(Runs, weave.mend, 0)
        weave.stop(9)
        self.assertEqual((weave.posted(), twin.posted()), ([], posted))

    def test_a_twin_has_all_the_same(self):
        for rule in RULES:
            weave = woven(*FIRST, ("cut", 1), ("stop", 9), rule=rule)
            weave.do([("take", 0, 3)])
            self.refused(Stopped, weave.do, [("take", 0, 3), ("stop", 9)])
            twin = weave.twin()
            self.assertIs(type(twin), Weave)
            self.assertEqual(all_looks(twin), all_looks(weave))
            for deed in (("take", 0, 3), ("mend", 1), ("start", 9), ("take", 1, 5), ("take", 1, 7), ("cut", 0)):
                led(twin, [deed])
                led(weave, [deed])
                self.assertEqual(all_looks(twin), all_looks(weave))

    def test_a_twin_and_its_elder_apart(self):
        for turned in (False, True):
            elder = woven(*FIRST, ("cut", 1), ("stop", 9))
            one, other = (elder.twin(), elder) if turned else (elder, elder.twin())
            ahead = all_looks(other)
            one.do([("take", 0, 3), ("take", 2, 3)])
            led(one, [("mend", 1), ("start", 9), ("stop", 7), ("cut", 2)])
            self.refused(Stopped, one.do, [("stop", 7)])
            self.assertEqual(all_looks(other), ahead)

    def test_two_weaves_of_one_net(self):
        net = ordinary()
        one, other = Weave(net), Weave(net)
        led(one, FIRST + [("cut", 1), ("stop", 3)])
        self.assertEqual(all_looks(other), all_looks(woven()))
        self.assertEqual(net, ordinary())


class AllKinds(Case):
    """Weaves under deeds of all kinds."""

    def test_as_the_plain_one(self):
        for rule in RULES:
            for seed in range(6):
                dice = Dice(seed)
                net = some_net(dice, 5, 6)
                weave, plain = Weave(net, rule=rule), PlainWeave(net, rule)
                for _ in range(40):
                    deed = some_deed(dice, net, weave.waiting())
                    ahead = all_looks(weave)
                    if is_done(weave, deed):
                        plain.do(*deed)
                        self.assertEqual(weave.log(), ahead["log"] + [deed])
                    else:
                        self.assertEqual(all_looks(weave), ahead)
                    with self.subTest(rule=rule, seed=seed):
                        self.assertEqual(weave_looks(weave), plain.looks())

    def test_by_the_right_rule_no_ring_and_no_needless_closing(self):
        for seed in range(40):
            dice = Dice(seed)
            net = some_net(dice)
            weave = Weave(net)
            for _ in range(120):
                ahead = weave_looks(weave)
                is_done(weave, some_deed(dice, net, weave.waiting(), 20))
                self.assertFalse(has_ring(net, weave.open_links()))
                self.assert_closed_by_need(ahead, weave_looks(weave))

    def assert_closed_by_need(self, ahead, behind):
        """No door that led and leads on is closed but where the standing got worse."""
        for door in ahead["open_doors"]:
            if ahead["roles"][door] == behind["roles"].get(door) == "leads" and door not in behind["open_doors"]:
                self.assertGreater(behind["standings"][door[1]], ahead["standings"][door[1]])

    def test_a_do_is_its_deeds(self):
        for seed in range(60):
            dice = Dice(seed)
            net = some_net(dice)
            weave = Weave(net)
            for _ in range(20):
                is_done(weave, some_deed(dice, net, weave.waiting()))
            deeds = [some_deed(dice, net, [], 4) or ("stop", net.halls()[0]) for _ in range(3)]
            one, ahead = weave.twin(), all_looks(weave)
            done = [deed for deed in deeds if is_done(one, deed)]
            if done == deeds:
                weave.do(deeds)
                self.assertEqual(all_looks(weave), {**all_looks(one), "notes": [("begin", 3), ("end", True)]})
            else:
                self.assertRaises(RingError, weave.do, deeds)
                self.assertEqual(all_looks(weave), {**ahead, "notes": [("begin", 3), ("end", False)]})


class WrongRules(Case):
    """By each wrong rule a ring comes at last, here by its last deed; by the right one none comes."""

    def test_each(self):
        self.assertEqual((RIGHT, *RING_WAYS), RULES)
        for rule, (net, way) in RING_WAYS.items():
            weave, right = Weave(net, rule=rule), Weave(net)
            for place, deed in enumerate(way):
                self.assertFalse(has_ring(net, weave.open_links()), (rule, place))
                led(weave, [deed])
                if deed[0] == "cut" or deed[1:] in right.waiting():
                    led(right, [deed])
                self.assertFalse(has_ring(net, right.open_links()), (rule, place))
            self.assertTrue(has_ring(net, weave.open_links()), rule)


if __name__ == "__main__":
    unittest.main()

import unittest

from plain import all_looks, is_done, led, settled_by, some_deed, some_net
from ringless.calls import Calls
from ringless.errors import (
    BadHouse,
    Cut,
    NoDeed,
    NoHall,
    NoHouse,
    NoLetter,
    NoLink,
    RingError,
    Runs,
    Stands,
    Stopped,
)
from ringless.nets import Net
from ringless.settling import settled
from ringless.weaves import Weave
from things import NO_NUMBERS, Case, Dice, nested

# A row of halls 1, 2, 3, 4, a second link from 2 to 3, a hall by itself.
NET = Net([1, 2, 3, 4, 9], [(1, 2, 1), (2, 3, 1), (3, 4, 1), (2, 3, 5)])
# A ring of three halls: link 2 is not of the due tree.
ROUND = Net([1, 2, 3], [(1, 2, 1), (1, 3, 1), (2, 3, 1)])
NO_HOUSES = NO_NUMBERS + ["Anna", "annabel", "anna ", " ", "a b", "a1", "an-na", "\u00e4", "\u00b5", "A", "a\n"]
NO_HOUSES += [0, 5, b"anna", nested(5000), 10**9999, ["anna"], ("anna",)]


def settled_calls(net=NET, **homes):
    weave = Weave(net)
    settled(weave)
    calls = Calls(weave)
    for house, hall in homes.items():
        calls.live(house, hall)
    return calls


def looks(calls):
    """All that calls tell without being changed."""
    weave = calls.weave()
    return {
        "weave": all_looks(weave),
        "waiting": calls.waiting(),
        "tables": {hall: list(calls.table(hall).items()) for hall in weave.standings()},
    }


def flush(calls):
    """Take all flushes."""
    while calls.waiting():
        calls.do(("flush", *calls.waiting()[0]))


class PlainCalls:
    """Calls as plainly as the document has them, over a weave of the program."""

    def __init__(self, weave):
        self.weave = weave.twin()
        self.homes = {}
        self.tables = {hall: {} for hall in weave.standings()}
        self.flushes = []

    def doors(self, hall):
        return [link for link, other in self.weave.open_doors() if other == hall]

    def call(self, house, to):
        home = self.homes[house]
        self.tables[home].pop(house, None)
        return sorted(self.carry(house, to, home, None))

    def carry(self, house, to, hall, came_by):
        found = [hall]
        if came_by is not None:
            self.tables[hall][house] = came_by
        if to is not None and self.homes.get(to) == hall:
            return found
        for link in self.weave.open_links():
            ends = self.weave.net().links()[link][:2]
            if hall in ends and link != came_by and (to is None or self.tables[hall].get(to, link) == link):
                found += self.carry(house, to, sum(ends) - hall, link)
        return found

    def do(self, deed):
        """Do a deed that isn't refused."""
        if deed[0] == "flush":
            self.flushes.remove(deed[1:])
            if deed[1] in self.doors(deed[2]):
                self.empty(deed[2], [link for link in self.doors(deed[2]) if link != deed[1]])
            return
        ahead = {hall: self.doors(hall) for hall in self.weave.standings()}
        led(self.weave, [deed])
        standing = self.weave.standings()
        self.tables = {hall: self.tables.get(hall, {}) for hall in standing}
        self.homes = {house: hall for house, hall in self.homes.items() if hall in standing}
        runs = [door for door, role in self.weave.roles().items() if role != "cut"]
        self.flushes = [door for door in self.flushes if door in runs]
        for hall in standing:
            if self.doors(hall) != ahead.get(hall, []):
                self.empty(hall, [link for link, other in runs if other == hall])

    def empty(self, hall, links):
        self.tables[hall] = {}
        self.flushes += [(link, self.weave.net().beyond(link, hall)) for link in links]

    def looks(self):
        return {
            "weave": all_looks(self.weave),
            "waiting": sorted(set(self.flushes)),
            "tables": {hall: sorted(table.items()) for hall, table in sorted(self.tables.items())},
        }


class Living(Case):
    def test_live_and_leave(self):
        calls = settled_calls()
        self.assertIsNone(calls.live("anna", 1))
        self.assertEqual(calls.lives("anna"), 1)
        self.assertIsNone(calls.leave("anna"))
        self.refused(NoHouse, calls.lives, "anna")

    def test_names(self):
        calls = settled_calls()
        for house in ("a", "z", "abcdef", "zzzzzz", "go", "none", "true"):
            calls.live(house, 2)
            self.assertEqual(calls.lives(house), 2)

    def test_a_house_that_lived_elsewhere_moves(self):
        calls = settled_calls(anna=1)
        calls.live("anna", 9)
        self.assertEqual(calls.lives("anna"), 9)
        calls.live("anna", 9)
        self.assertEqual(calls.lives("anna"), 9)
        self.assertEqual(calls.call("anna"), [9])
        calls.leave("anna")
        self.refused(NoHouse, calls.leave, "anna")

    def test_several_in_a_hall(self):
        calls = settled_calls(anna=1, bob=1)
        calls.leave("anna")
        self.assertEqual(calls.lives("bob"), 1)

    def test_with_a_hall_that_stops_its_houses_are_gone(self):
        calls = settled_calls(anna=1, bob=2, carl=1)
        calls.do(("stop", 1))
        for house in ("anna", "carl"):
            self.assertEqual(self.refused(NoHouse, calls.lives, house), {"name": house})
        self.assertEqual(calls.lives("bob"), 2)
        calls.do(("start", 1))
        self.refused(NoHouse, calls.call, "anna")
        calls.live("anna", 1)
        self.assertEqual(calls.lives("anna"), 1)

    def test_by_name(self):
        calls = Calls(weave=Weave(NET))
        calls.live(hall=1, house="anna")
        self.assertEqual((calls.lives(house="anna"), calls.call(house="anna", to="bob")), (1, [1]))
        self.assertEqual(calls.table(hall=1), {})
        calls.do(deed=("cut", 0))
        calls.leave(house="anna")


class Calling(Case):
    def tables(self, calls):
        return {hall: calls.table(hall) for hall in calls.weave().standings()}

    def test_to_all(self):
        calls = settled_calls(anna=3, carl=9)
        self.assertEqual(calls.weave().open_links(), [0, 1, 2])
        self.assertEqual(calls.call("anna"), [1, 2, 3, 4])
        self.assertEqual(self.tables(calls), {1: {"anna": 0}, 2: {"anna": 1}, 3: {}, 4: {"anna": 2}, 9: {}})
        self.assertEqual(calls.call("carl"), [9])
        self.assertEqual(calls.call("anna", None), [1, 2, 3, 4])
        self.assertEqual(calls.call("anna", to=None), [1, 2, 3, 4])

    def test_where_no_link_is_open(self):
        calls = Calls(Weave(NET))
        calls.live("anna", 2)
        self.assertEqual(calls.call("anna"), [2])
        self.assertEqual(calls.table(2), {})

    def test_only_links_of_which_both_doors_are_open_lead(self):
        weave = led(Weave(ROUND), [("take", 0, 2)])
        self.assertEqual((weave.open_doors(), weave.open_links()), ([(0, 2)], []))
        calls = Calls(weave)
        calls.live("anna", 1)
        calls.live("bob", 2)
        self.assertEqual((calls.call("anna"), calls.call("bob")), ([1], [2]))

    def test_to_a_house_that_no_table_has(self):
        calls = settled_calls(anna=1, bob=3)
        self.assertEqual(calls.call("anna", "bob"), [1, 2, 3])
        # Where bob lives it goes no further.
        self.assertEqual(self.tables(calls), {1: {}, 2: {"anna": 0}, 3: {"anna": 1}, 4: {}, 9: {}})

    def test_by_the_tables(self):
        calls = settled_calls(anna=1, bob=3, dora=2)
        calls.call("bob")
        self.assertEqual(calls.call("dora", "bob"), [2, 3])
        self.assertEqual(calls.table(1), {"bob": 0})
        calls.call("anna")
        self.assertEqual(calls.call("dora", "anna"), [1, 2])
        self.assertEqual(calls.call("bob", "anna"), [1, 2, 3])
        self.assertEqual(calls.table(4), {"anna": 2, "bob": 2})

    def test_to_a_house_of_the_same_hall(self):
        calls = settled_calls(anna=2, bob=2)
        self.assertEqual(calls.call("anna", "bob"), [2])
        self.assertEqual(calls.call("anna", "anna"), [2])
        self.assertEqual(self.tables(calls), {hall: {} for hall in (1, 2, 3, 4, 9)})

    def test_to_a_house_that_lives_nowhere(self):
        calls = settled_calls(anna=2)
        self.assertEqual(calls.call("anna", "zoe"), [1, 2, 3, 4])

    def test_to_a_house_that_left(self):
        # The tables lead to where it was.
        calls = settled_calls(anna=1, bob=4)
        calls.call("bob")
        calls.leave("bob")
        self.assertEqual(calls.call("anna", "bob"), [1, 2, 3, 4])
        calls = settled_calls(anna=2, bob=1)
        calls.call("bob")
        calls.leave("bob")
        self.assertEqual(calls.call("anna", "bob"), [1, 2])

    def test_the_link_come_by(self):
        # Bob has moved: hall 2 knows him by the link by which anna's call comes.
        calls = settled_calls(anna=1, bob=1)
        calls.call("bob")
        calls.live("bob", 3)
        self.assertEqual(calls.table(2), {"bob": 0})
        self.assertEqual(calls.call("anna", "bob"), [1, 2])
        self.assertEqual(calls.table(2), {"anna": 0, "bob": 0})
        # Once bob has called, it is led on.
        calls.call("bob")
        self.assertEqual(calls.call("anna", "bob"), [1, 2, 3])

    def test_a_link_of_the_table_that_is_closed(self):
        # Hall 3 knows bob by link 2, where its own door is open; hall 2 has got worse and has closed its one.
        calls = settled_calls(Net([1, 2, 3, 4], [(1, 2, 1), (1, 2, 2), (2, 3, 5), (3, 4, 1)]), anna=3, bob=2)
        calls.call("bob")
        calls.do(("cut", 0))
        self.assertIn((2, 3), calls.weave().open_doors())
        self.assertEqual(calls.weave().open_links(), [1, 3])
        self.assertEqual(calls.table(3), {"bob": 2})
        # Hall 4 is open to it, but bob isn't that way.
        self.assertEqual(calls.call("anna", "bob"), [3])
        self.assertEqual(calls.call("anna"), [3, 4])

    def test_the_callers_own_hall_forgets_it(self):
        calls = settled_calls(anna=1)
        calls.call("anna")
        calls.live("anna", 4)
        self.assertEqual(calls.table(4), {"anna": 2})
        # Also where the call goes nowhere.
        self.assertEqual(calls.call("anna", "anna"), [4])
        self.assertEqual(calls.table(4), {})
        self.assertEqual(calls.table(3), {"anna": 1})
        calls.call("anna")
        self.assertEqual(self.tables(calls), {1: {"anna": 0}, 2: {"anna": 1}, 3: {"anna": 2}, 4: {}, 9: {}})

    def test_only_its_own_row_is_forgotten(self):
        calls = settled_calls(anna=1, bob=1)
        calls.call("anna")
        calls.call("bob")
        calls.live("anna", 4)
        calls.call("anna")
        self.assertEqual(calls.table(4), {"bob": 2})

    def test_a_call_changes_nothing_else(self):
        calls = settled_calls(anna=1, bob=3)
        ahead = looks(calls)
        calls.call("anna")
        calls.call("bob", "anna")
        self.assertEqual({**looks(calls), "tables": 0}, {**ahead, "tables": 0})

    def test_tables_rise(self):
        calls = settled_calls(zoe=1, anna=1, mia=1, b=1)
        for house in ("zoe", "b", "mia", "anna"):
            calls.call(house)
        self.assertEqual(list(calls.table(3)), ["anna", "b", "mia", "zoe"])

    def test_once_in_each_hall_to_which_open_links_lead(self):
        for seed in range(30):
            dice = Dice(seed)
            net = some_net(dice)
            weave = Weave(net)
            for _ in range(60):
                is_done(weave, some_deed(dice, net, weave.waiting()))
            calls = Calls(weave)
            for hall in weave.standings():
                calls.live("anna", hall)
                joined = [hall]
                for _ in net.links():
                    for link in weave.open_links():
                        ends = net.ends(link)
                        joined += ends if set(ends) & set(joined) else []
                self.assertEqual(calls.call("anna"), sorted(set(joined)))


class Flushing(Case):
    def test_a_new_one_has_no_flushes(self):
        self.assertEqual(Calls(Weave(NET)).waiting(), [])
        self.assertEqual(settled_calls().waiting(), [])

    def test_by_each_door_that_runs_open_or_not(self):
        calls = settled_calls(anna=3, bob=1)
        calls.call("anna")
        calls.call("bob")
        # Hall 2 has its door of link 0 cut, gets worse and closes link 1; hall 1 has no other door.
        calls.do(("cut", 0))
        self.assertEqual(calls.table(2), {})
        self.assertEqual(calls.table(1), {})
        self.assertEqual(calls.table(3), {"bob": 1})
        self.assertEqual(calls.waiting(), [(1, 3), (3, 3)])

    def test_only_where_open_doors_change(self):
        calls = settled_calls(anna=3, bob=1)
        calls.call("anna")
        calls.call("bob")
        # At link 3 hall 2 has an open door, as hall 3 agreed to it; hall 3's own one is beside.
        calls.do(("cut", 3))
        self.assertEqual(calls.waiting(), [(0, 1), (1, 3)])
        self.assertEqual((calls.table(2), calls.table(3)), ({}, {"bob": 1}))
        flush(calls)
        # What is said at a door that leads, closed, changes no open door.
        calls.do(("mend", 3))
        calls.do(("take", 3, 2))
        self.assertEqual(calls.waiting(), [])
        calls.do(("stop", 9))
        calls.do(("start", 9))
        self.assertEqual(calls.waiting(), [])

    def test_at_an_open_door(self):
        calls = settled_calls(anna=1, bob=4)
        calls.call("anna")
        calls.call("bob")
        calls.do(("cut", 0))
        # Hall 3's door of link 1 is its root door: its table is emptied, and it goes on by link 2 alone.
        self.assertIsNone(calls.do(("flush", 1, 3)))
        self.assertEqual(calls.table(3), {})
        self.assertEqual(calls.waiting(), [(2, 4), (3, 3)])
        self.assertEqual(calls.table(4), {"anna": 2})
        calls.do(("flush", 2, 4))
        self.assertEqual(calls.table(4), {})
        self.assertEqual(calls.waiting(), [(3, 3)])

    def test_at_a_closed_door(self):
        calls = settled_calls(anna=1, bob=4)
        calls.call("anna")
        calls.call("bob")
        calls.do(("cut", 0))
        # Hall 3's door of link 3 is beside.
        calls.do(("flush", 3, 3))
        self.assertEqual(calls.table(3), {"anna": 1, "bob": 2})
        self.assertEqual(calls.waiting(), [(1, 3)])

    def test_first_in_first_out_and_several(self):
        calls = settled_calls()
        calls.do(("cut", 0))
        calls.do(("mend", 0))
        calls.do(("take", 0, 2))
        # Hall 2 has sent two by link 1 and one by link 0.
        self.assertEqual(calls.waiting(), [(0, 1), (1, 3), (3, 3)])
        calls.do(("flush", 1, 3))
        self.assertEqual(calls.waiting(), [(0, 1), (1, 3), (2, 4), (3, 3)])
        calls.do(("flush", 1, 3))
        self.assertEqual(calls.waiting(), [(0, 1), (2, 4), (3, 3)])
        self.assertEqual(self.refused(NoLetter, calls.do, ("flush", 1, 3)), {"link": 1, "hall": 3})
        calls.do(("flush", 2, 4))
        calls.do(("flush", 2, 4))
        self.assertEqual(calls.waiting(), [(0, 1), (3, 3)])

    def test_lost_with_a_cut_link(self):
        calls = settled_calls()
        calls.do(("cut", 0))
        calls.do(("cut", 3))
        self.assertEqual(calls.waiting(), [(1, 3)])
        calls.do(("mend", 3))
        self.assertEqual(calls.waiting(), [(1, 3)])
        self.refused(NoLetter, calls.do, ("flush", 3, 3))

    def test_lost_with_a_stopped_hall(self):
        calls = settled_calls()
        calls.do(("cut", 0))
        calls.do(("stop", 3))
        # Hall 4 has lost its root door and has no door left; hall 2 has had its one of link 1 closed ahead.
        self.assertEqual(calls.waiting(), [])
        calls.do(("start", 3))
        self.assertEqual(calls.waiting(), [])

    def test_tables_of_a_stopped_hall(self):
        calls = settled_calls(anna=1)
        calls.call("anna")
        self.assertEqual(calls.table(2), {"anna": 0})
        calls.do(("stop", 2))
        self.assertEqual(self.refused(Stopped, calls.table, 2), {"number": 2})
        calls.do(("start", 2))
        self.assertEqual(calls.table(2), {})

    def test_a_deed_of_several_steps_flushes_once(self):
        # Hall 2 cuts its doors of both links as hall 3 stops.
        calls = settled_calls()
        calls.do(("stop", 3))
        self.assertEqual(calls.waiting(), [(0, 1)])
        calls.do(("flush", 0, 1))
        self.assertEqual(calls.waiting(), [])

    def test_letters_and_flushes_are_in_rows_of_their_own(self):
        calls = settled_calls()
        calls.do(("cut", 0))
        letters = calls.weave().letters()
        calls.do(("flush", 1, 3))
        self.assertEqual(calls.weave().letters(), letters)
        waiting = calls.waiting()
        calls.do(("take", 3, 3))
        self.assertEqual(calls.waiting(), waiting)


class Doing(Case):
    def test_as_a_weave_does(self):
        for seed in range(10):
            dice = Dice(seed)
            net = some_net(dice)
            weave = Weave(net)
            calls = Calls(weave)
            for _ in range(60):
                deed = some_deed(dice, net, weave.waiting())
                if deed is None:
                    continue
                try:
                    led(weave, [deed])
                except RingError as error:
                    self.assertEqual(self.refused(type(error), calls.do, deed), vars(error))
                else:
                    self.assertIsNone(calls.do(deed))
                self.assertEqual(all_looks(calls.weave()), all_looks(weave))

    def test_the_weave_that_was_handed_in_and_those_told_are_apart(self):
        weave = Weave(NET)
        weave.do([("take", 0, 2)])
        ahead = all_looks(weave)
        calls = Calls(weave)
        self.assertEqual(all_looks(calls.weave()), ahead)
        calls.do(("stop", 1))
        self.assertEqual(all_looks(weave), ahead)
        told = calls.weave()
        self.assertIs(type(told), Weave)
        led(told, [("stop", 2)])
        led(weave, [("stop", 3)])
        self.assertEqual(calls.weave().away(), [1])

    def test_a_weave_with_cut_links_and_stopped_halls(self):
        weave = led(Weave(NET), [("stop", 9), ("cut", 1)])
        settled(weave)
        calls = Calls(weave)
        self.refused_number(Stopped, 9, calls.table, 9)
        self.refused_number(Stopped, 9, calls.live, "anna", 9)
        calls.live("anna", 4)
        self.assertEqual(calls.call("anna"), [1, 2, 3, 4])
        self.assertEqual(calls.table(3), {"anna": 2})
        calls.do(("start", 9))
        self.assertEqual(calls.table(9), {})

    def test_told_lists_and_dicts_are_new(self):
        calls = settled_calls(anna=1)
        calls.call("anna").clear()
        calls.do(("cut", 2))
        ahead = looks(calls)
        calls.table(2).clear()
        calls.table(2)["bob"] = 1
        calls.waiting().clear()
        self.assertEqual(looks(calls), ahead)
        self.assertEqual(calls.call("anna"), [1, 2, 3])
        self.assertIs(type(calls.table(2)), dict)


class Refusals(Case):
    def filled(self):
        calls = settled_calls(anna=1, bob=3)
        calls.call("anna")
        calls.do(("cut", 2))
        calls.do(("stop", 9))
        return calls

    def assert_refused(self, error, told, word, *args):
        calls = self.filled()
        found = self.refused(error, getattr(calls, word), *args)
        self.assertEqual(found, told)
        self.assertEqual(looks(calls), looks(self.filled()))
        self.assertEqual((calls.lives("anna"), calls.lives("bob")), (1, 3))

    def test_bad_house(self):
        for thing in NO_HOUSES:
            with self.subTest():
                self.assert_refused(BadHouse, {}, "live", thing, 2)
                self.assert_refused(BadHouse, {}, "live", thing, None)
                self.assert_refused(BadHouse, {}, "live", thing, 9)
                if thing is not None:
                    self.assert_refused(BadHouse, {}, "call", "anna", thing)

    def test_no_hall(self):
        for thing in NO_NUMBERS + [0, 5, -1, 1000, nested(5000), 10**9999]:
            calls = self.filled()
            with self.subTest():
                self.refused_number(NoHall, thing, calls.live, "anna", thing)
                self.refused_number(NoHall, thing, calls.live, "zoe", thing)
                self.refused_number(NoHall, thing, calls.table, thing)
            self.assertEqual(looks(calls), looks(self.filled()))
            self.assertEqual(calls.lives("anna"), 1)

    def test_stopped(self):
        self.assert_refused(Stopped, {"number": 9}, "live", "anna", 9)
        self.assert_refused(Stopped, {"number": 9}, "table", 9)

    def test_no_house(self):
        for thing in NO_HOUSES + ["zoe", "ann", "annab"]:
            with self.subTest():
                for word in ("leave", "lives", "call"):
                    self.assert_refused(NoHouse, {"name": thing}, word, thing)
                self.assert_refused(NoHouse, {"name": thing}, "call", thing, "Bob")
                self.assert_refused(NoHouse, {"name": thing}, "call", thing, "anna")

    def test_no_deed(self):
        things = NO_NUMBERS + ["cut", 0, ("cut",), ("cut", 0, 1), ["cut", 0], ("flush", 1), ("flush", 1, 3, 0)]
        things += [("Flush", 1, 3), ("take", 1), ("call", "anna"), [("cut", 0)], (None, 0), (["cut"], 0)]
        things += [["flush", 1, 3], nested(5000), ((), 1, 3), (nested(5000), 1, 3), ("settle",), (("flush", 1, 3),)]
        for thing in things:
            with self.subTest():
                self.assert_refused(NoDeed, {"at": 0}, "do", thing)

    def test_flushes(self):
        for thing in NO_NUMBERS + [4, -1, nested(5000)]:
            calls = self.filled()
            with self.subTest():
                self.refused_number(NoLink, thing, calls.do, ("flush", thing, 7))
                self.refused_number(NoHall, thing, calls.do, ("flush", 0, thing))
            self.assertEqual(looks(calls), looks(self.filled()))
        self.assert_refused(NoHall, {"number": 3}, "do", ("flush", 0, 3))
        self.assert_refused(NoLetter, {"link": 2, "hall": 4}, "do", ("flush", 2, 4))
        self.assert_refused(NoLetter, {"link": 0, "hall": 1}, "do", ("flush", 0, 1))

    def test_deeds(self):
        self.assert_refused(NoLink, {"number": 4}, "do", ("cut", 4))
        self.assert_refused(NoHall, {"number": 4}, "do", ("take", 0, 4))
        self.assert_refused(NoLetter, {"link": 0, "hall": 2}, "do", ("take", 0, 2))
        self.assert_refused(Cut, {"number": 2}, "do", ("cut", 2))
        self.assert_refused(Runs, {"number": 0}, "do", ("mend", 0))
        self.assert_refused(Stopped, {"number": 9}, "do", ("stop", 9))
        self.assert_refused(Stands, {"number": 1}, "do", ("start", 1))

    def test_truths_are_no_halls(self):
        calls = settled_calls(Net([0, 1], [(0, 1, 1)]))
        for thing in (True, False):
            self.refused_number(NoHall, thing, calls.live, "anna", thing)
            self.refused_number(NoHall, thing, calls.table, thing)
            self.refused_number(NoLink, thing, calls.do, ("flush", thing, 0))
            self.refused_number(NoHall, thing, calls.do, ("flush", 0, thing))


class AllKinds(Case):
    """Houses, calls, deeds and flushes of all kinds, held against the plain calls."""

    HOUSES = ("anna", "bob", "carl", "dora")

    def step(self, dice, calls, plain):
        house, to = dice.pick(self.HOUSES), dice.pick(self.HOUSES + (None,))
        weave = calls.weave()
        roll = dice.roll(8)
        if roll == 0 and weave.standings():
            hall = dice.pick(list(weave.standings()))
            calls.live(house, hall)
            plain.homes[house] = hall
        elif roll == 1 and house in plain.homes:
            calls.leave(house)
            del plain.homes[house]
        elif roll < 4 and house in plain.homes:
            self.assertEqual(calls.call(house, to), plain.call(house, to))
        elif roll < 6 and calls.waiting():
            self.do(calls, plain, ("flush", *dice.pick(calls.waiting())))
        else:
            deed = some_deed(dice, weave.net(), weave.waiting(), 24)
            if is_done(weave, deed):
                self.do(calls, plain, deed)

    def do(self, calls, plain, deed):
        calls.do(deed)
        plain.do(deed)

    def test_as_the_plain_ones(self):
        for seed in range(40):
            dice = Dice(seed)
            net = some_net(dice)
            weave = Weave(net)
            settled_by(weave, [])
            calls, plain = Calls(weave), PlainCalls(weave)
            for _ in range(60):
                self.step(dice, calls, plain)
                with self.subTest(seed=seed):
                    self.assertEqual(looks(calls), plain.looks())
                    for house in self.HOUSES:
                        if house in plain.homes:
                            self.assertEqual(calls.lives(house), plain.homes[house])
                        else:
                            self.refused(NoHouse, calls.lives, house)

    def test_no_table_leads_elsewhere_when_letters_and_flushes_have_ended(self):
        rows = 0
        for seed in range(80):
            dice = Dice(seed)
            net = some_net(dice)
            weave = Weave(net)
            settled_by(weave, [])
            calls = Calls(weave)
            homes = {house: dice.pick(net.halls()) for house in self.HOUSES}
            for house, hall in homes.items():
                calls.live(house, hall)
            for _ in range(60):
                words = [("flush", *door) for door in calls.waiting()]
                words += [("take", *door) for door in calls.weave().waiting()]
                deed = dice.pick(words) if words and dice.roll(3) else some_deed(dice, net, [], 40)
                if deed and (deed[0] == "flush" or is_done(calls.weave(), deed)):
                    calls.do(deed)
                    homes = {house: hall for house, hall in homes.items() if deed != ("stop", hall)}
                if homes:
                    calls.call(dice.pick(list(homes)), dice.pick((None, *self.HOUSES)))
            while calls.waiting() or calls.weave().waiting():
                words = [("flush", *door) for door in calls.waiting()]
                calls.do(dice.pick(words + [("take", *door) for door in calls.weave().waiting()]))
            rows += self.assert_led(calls, homes)
        self.assertGreater(rows, 100)

    def assert_led(self, calls, houses):
        """Each table's row of these houses leads on the way to its hall, where there is one; how many rows."""
        rows = 0
        net, opened = calls.weave().net(), calls.weave().open_links()
        for hall in calls.weave().standings():
            for house, link in calls.table(hall).items():
                if house in houses and calls.lives(house) in self.beyond(net, opened, hall, None):
                    self.assertIn(calls.lives(house), self.beyond(net, [link], hall, None, opened))
                    rows += 1
        return rows

    def beyond(self, net, links, hall, came_by, further=None):
        """The halls to which links lead from a hall, those of the first step by some of them alone."""
        found = []
        for link in links:
            if hall in net.ends(link) and link != came_by:
                other = net.beyond(link, hall)
                opened = links if further is None else further
                if link in opened:
                    found += [other] + self.beyond(net, opened, other, link)
        return found


if __name__ == "__main__":
    unittest.main()

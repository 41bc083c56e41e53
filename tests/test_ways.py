import copy
import unittest

from plain import RING_WAYS, PlainWeave, all_looks, has_ring, is_done, led, some_deed, takes, weave_looks
from ringless.errors import NoRule, TooLong
from ringless.nets import Net
from ringless.rules import RIGHT, RULES
from ringless.settling import settled
from ringless.ways import example, mark, ways
from ringless.weaves import Weave
from things import NO_NUMBERS, Case, Dice, nested

ONE = Net([0, 1], [(0, 1, 2)])
TWO = Net([4, 2], [(4, 2, 3), (2, 4, 3)])
ROW = Net([0, 1, 2], [(0, 1, 1), (1, 2, 1)])


def may_be_done(plain, word, thing):
    cut, halls = plain.cut, plain.halls
    return {"cut": thing not in cut, "mend": thing in cut, "stop": thing in halls, "start": thing not in halls}[word]


def plain_steps(plain, deeds, done):
    steps = [("take", *door) for door, row in sorted(plain.rows.items()) if row]
    return steps + [deed for deed in deeds[done : done + 1] if may_be_done(plain, *deed)]


def plain_ways(plain, deeds):
    """What ways tells, as plainly as the document has it."""
    layer, seen, rings, ends = [(plain, 0, [])], {(plain.mark(), 0)}, [], set()
    while layer:
        following = []
        for one, done, way in layer:
            looks = one.looks()
            rings += [way] if has_ring(one.net, looks["open_links"]) else []
            if not looks["letters"] and done == len(deeds):
                ends.add(str((looks["standings"], looks["open_links"])))
            for step in plain_steps(one, deeds, done):
                other = copy.deepcopy(one)
                other.do(*step)
                key = (other.mark(), done + (step[0] != "take"))
                if key not in seen:
                    seen.add(key)
                    following.append((other, key[1], way + [step]))
        layer = following
    return {"states": len(seen), "ring": rings[0] if rings else None, "ends": len(ends)}


def twins(net, rule, deeds):
    """A weave and the plain one behind the same deeds."""
    weave, plain = Weave(net, rule=rule), PlainWeave(net, rule)
    for deed in deeds:
        if is_done(weave, deed):
            plain.do(*deed)
    return weave, plain


class Marks(Case):
    def assert_alike(self, one, other, alike=True):
        self.assertEqual(mark(one) == mark(other), alike)

    def test_a_tuple(self):
        self.assertIs(type(mark(Weave(TWO))), tuple)
        self.assertEqual(len({mark(Weave(TWO)): 1}), 1)

    def test_the_weave_stays(self):
        weave = led(Weave(TWO), [("take", 0, 4), ("cut", 1)])
        ahead = all_looks(weave)
        mark(weave)
        self.assertEqual(all_looks(weave), ahead)

    def test_numbers_alone_do_not_tell(self):
        # Hall 2 goes to and fro, so all is said with greater numbers.
        one, other = Weave(ROW), Weave(ROW)
        settled(one)
        settled(other)
        led(other, [("cut", 0)])
        settled(other)
        led(other, [("mend", 0)])
        settled(other)
        self.assertEqual(weave_looks(one), weave_looks(other))
        self.assert_alike(one, other)
        # Their numbers differ.
        led(one, [("cut", 0)])
        led(other, [("cut", 0)])
        self.assertNotEqual(one.letters(), other.letters())
        self.assert_alike(one, other)
        # Agrees on their way differ in numbers, too.
        self.assertEqual(settled(one.twin()), settled(other.twin()))
        for _ in range(6):
            self.assert_alike(one, other)
            for weave in (one, other):
                weave.take(*weave.waiting()[0])

    def test_logs_and_notes_do_not_tell(self):
        one, other = Weave(TWO), Weave(TWO)
        other.do([])
        led(one, [("cut", 0), ("cut", 1)])
        led(other, [("cut", 1), ("cut", 0)])
        self.assert_alike(one, other)

    def test_cut_links_and_stopped_halls_tell(self):
        for deeds in ([("cut", 0)], [("cut", 1)], [("stop", 2)], [("stop", 4)]):
            self.assert_alike(Weave(TWO), led(Weave(TWO), deeds), False)
        # No link runs.
        rows = [[("stop", 2)], [("stop", 4)], [("cut", 0), ("cut", 1)], [("stop", 2), ("cut", 0)]]
        rows.append([("stop", 2), ("stop", 4)])
        for place, deeds in enumerate(rows):
            for other in rows[:place]:
                self.assert_alike(led(Weave(TWO), deeds), led(Weave(TWO), other), False)

    def test_what_was_heard_tells(self):
        # Hall 2 has heard (4, 0) at one door or at the other one, at both, or at none; no role is another one.
        weaves = [led(Weave(TWO), deeds) for deeds in ([], [("take", 0, 2)], [("take", 1, 2)])]
        weaves.append(led(weaves[1].twin(), [("take", 1, 2)]))
        for place, weave in enumerate(weaves):
            self.assertEqual(set(weave.roles().values()), {"leads"})
            for other in weaves[:place]:
                self.assert_alike(weave, other, False)

    def test_whether_an_agree_to_what_was_heard_would_count_tells(self):
        net = RING_WAYS["free"][0]
        one = led(Weave(net), takes("22 12 21 21 01 22 12 00 11 11 00"))
        other = led(Weave(net), takes("12 21 22 00 01 12 11 22 00 11 21"))
        self.assertEqual(weave_looks(one), weave_looks(other))
        self.assert_alike(one, other, False)

    def test_the_order_of_letters_tells(self):
        seen = set()
        for schedule in ([0], [1], [2], [3], [0, 1], [1, 0]):
            weave = Weave(TWO)
            for place in schedule:
                weave.take(*weave.waiting()[place])
            seen.add(mark(weave))
        self.assertEqual(len(seen), 6)

    def test_as_the_document_has_it(self):
        for rule in RULES:
            # From marks of the one kind to those of the other one, and back.
            there, back = {}, {}
            for seed in range(10):
                dice = Dice(seed)
                net = (ONE, TWO, ROW)[seed % 3]
                weave, plain = Weave(net, rule=rule), PlainWeave(net, rule)
                for _ in range(60):
                    deed = some_deed(dice, net, weave.waiting(), 16)
                    if is_done(weave, deed):
                        plain.do(*deed)
                    one, other = (seed % 3, mark(weave)), (seed % 3, plain.mark())
                    self.assertEqual(there.setdefault(one, other), other)
                    self.assertEqual(back.setdefault(other, one), one)
            self.assertLess(len(there), 590)

    def test_all_goes_on_alike(self):
        for rule in RULES:
            for seed in range(4):
                dice = Dice(seed)
                net = (TWO, ROW)[seed % 2]
                weaves = {}
                for _ in range(12):
                    weave = Weave(net, rule=rule)
                    for _ in range(20):
                        is_done(weave, some_deed(dice, net, weave.waiting(), 14))
                        weaves.setdefault(mark(weave), []).append(weave.twin())
                for alike in weaves.values():
                    self.assert_going_on(alike[0], alike[-1])

    def assert_going_on(self, one, other):
        self.assertEqual(one.waiting(), other.waiting())
        for deed in [("take", *door) for door in one.waiting()] + [("cut", 0), ("mend", 0), ("stop", 2), ("start", 2)]:
            first, second = one.twin(), other.twin()
            self.assertEqual(is_done(first, deed), is_done(second, deed))
            self.assertEqual(mark(first), mark(second))
            self.assertEqual((first.standings(), first.open_doors()), (second.standings(), second.open_doors()))


class AllWays(Case):
    def assert_ways(self, weave, states, ring, ends, **more):
        ahead = all_looks(weave)
        found = ways(weave, **more)
        self.assertIs(type(found), dict)
        self.assertEqual(found, {"states": states, "ring": ring, "ends": ends})
        self.assertEqual(all_looks(weave), ahead)

    def test_one_hall(self):
        self.assert_ways(Weave(Net([3], [])), 1, None, 1)
        self.assert_ways(Weave(Net([3], [])), 3, None, 1, deeds=[("stop", 3), ("start", 3)])

    def test_one_link_by_hand(self):
        # One letter comes to hall 1. Ahead of it hall 0 has taken none or one, behind it none to three.
        weave = Weave(Net([0, 1], [(0, 1, 1)]))
        self.assert_ways(weave, 6, None, 1)
        self.assert_ways(led(weave.twin(), [("take", 0, 0)]), 4, None, 1)
        self.assert_ways(led(weave.twin(), [("take", 0, 1)]), 4, None, 1)

    def test_a_settled_weave(self):
        weave = Weave(TWO)
        settled(weave)
        self.assert_ways(weave, 1, None, 1)
        self.assert_ways(weave, 1, None, 1, deeds=())
        self.assert_ways(weave, 1, None, 1, deeds=[])

    def test_small_nets_have_no_ring_and_one_end(self):
        for net in (ONE, TWO, ROW, Net([5, 3, 8], [(5, 3, 1), (8, 5, 2)]), Net([1, 2], [(1, 2, 1)])):
            found = ways(Weave(net))
            self.assertEqual((found["ring"], found["ends"]), (None, 1))
        found = ways(Weave(RING_WAYS["turned"][0]), most=2000)
        self.assertEqual((found["ring"], found["ends"]), (None, 1))
        found = ways(Weave(TWO), deeds=[("cut", 0), ("mend", 0), ("stop", 2), ("start", 2)], most=3000)
        self.assertEqual((found["ring"], found["ends"]), (None, 1))

    def test_as_plainly_told(self):
        rows = [
            (TWO, [], []),
            (TWO, [("take", 0, 4), ("take", 1, 2), ("take", 0, 2)], [("cut", 0)]),
            (TWO, [("cut", 1), ("take", 0, 4), ("take", 0, 2)], [("mend", 1)]),
            (ONE, [], [("cut", 0), ("mend", 0), ("stop", 1), ("start", 1)]),
            (ONE, [("stop", 0)], [("start", 0), ("stop", 1)]),
            (ROW, [("take", 0, 0), ("take", 1, 1), ("take", 0, 1)], []),
        ]
        for rule in RULES:
            for net, ahead, deeds in rows:
                weave, plain = twins(net, rule, ahead)
                with self.subTest(rule=rule, net=net.links(), ahead=ahead, deeds=deeds):
                    self.assertEqual(ways(weave, deeds=deeds), plain_ways(plain, deeds))
                    self.assertEqual(ways(weave, deeds=tuple(deeds)), ways(weave, deeds=deeds))

    def test_deeds_in_their_order_each_at_any_time(self):
        # No letters: the states are those of the deeds alone.
        weave = Weave(Net([1, 2, 3], []))
        self.assert_ways(weave, 4, None, 1, deeds=[("stop", 3), ("stop", 1), ("start", 3)])
        # Two deeds that lead back to the same mark make another state.
        self.assert_ways(weave, 3, None, 1, deeds=[("stop", 3), ("start", 3)])

    def test_a_refused_deed_is_left_and_those_behind_it(self):
        weave = Weave(Net([1, 2], []))
        self.assert_ways(weave, 1, None, 0, deeds=[("start", 1)])
        self.assert_ways(weave, 1, None, 0, deeds=[("start", 1), ("stop", 2)])
        self.assert_ways(weave, 2, None, 0, deeds=[("stop", 1), ("stop", 1), ("start", 1)])
        self.assert_ways(weave, 2, None, 0, deeds=[("stop", 1), ("cut", 0)])
        self.assert_ways(weave, 1, None, 0, deeds=[("stop", 7)])

    def test_unlike_ends(self):
        # By the kept rule a door beside may stay open.
        found = ways(Weave(RING_WAYS["kept"][0], rule="kept"))
        self.assertEqual(found["ends"], 2)

    def test_a_ring_from_the_start(self):
        weave = Weave(TWO, rule="hasty")
        self.assertEqual(ways(weave)["ring"], [])
        self.assertEqual(ways(weave, deeds=[("cut", 0)])["ring"], [])

    def test_a_shortest_way_to_a_ring(self):
        net, way = RING_WAYS["kept"]
        weave = Weave(net, rule="kept")
        self.assertEqual(ways(weave)["ring"], way)
        self.assertEqual(ways(led(weave, way[:3]))["ring"], way[3:])
        # Behind it there is one already.
        self.assertEqual(ways(led(weave, way[3:]))["ring"], [])

    def test_of_several_the_first(self):
        # All takes ahead of the deed where both lead there.
        weave = Weave(TWO, rule="hasty")
        led(weave, [("cut", 0)])
        self.assertEqual(ways(weave, deeds=[("mend", 0)])["ring"], [("mend", 0)])
        net, way = RING_WAYS["kept"]
        for ahead, deeds in ((way[:1], [("cut", 1), ("mend", 1)]), ([("cut", 0)], [("mend", 0)])):
            weave, plain = twins(net, "kept", ahead)
            found = ways(weave, deeds=deeds)
            self.assertIsNotNone(found["ring"])
            self.assertEqual(found, plain_ways(plain, deeds))

    def test_the_way_leads_there(self):
        for net, ahead, deeds, rule in (
            (RING_WAYS["kept"][0], [("cut", 0)], [("mend", 0)], "kept"),
            (RING_WAYS["worse"][0], RING_WAYS["worse"][1][:14], [], "worse"),
            (RING_WAYS["turned"][0], RING_WAYS["turned"][1][:11], [], "turned"),
            (RING_WAYS["free"][0], RING_WAYS["free"][1][:9], [], "free"),
        ):
            weave = led(Weave(net, rule=rule), ahead)
            way = ways(weave, deeds=deeds, most=4000)["ring"]
            for deed in way:
                self.assertIs(type(deed), tuple)
                self.assertFalse(has_ring(net, weave.open_links()))
                led(weave, [deed])
            self.assertTrue(has_ring(net, weave.open_links()))
            self.assertEqual([deed for deed in way if deed[0] != "take"], deeds)

    def test_as_many_as_are_allowed_and_one_less(self):
        for rule, net, deeds in ((RIGHT, TWO, [("cut", 0)]), ("hasty", TWO, []), (RIGHT, Net([1], []), [])):
            weave = Weave(net, rule=rule)
            found = ways(weave, deeds=deeds)
            ahead = all_looks(weave)
            self.assertEqual(ways(weave, deeds=deeds, most=found["states"]), found)
            self.assertEqual(self.refused(TooLong, ways, weave, deeds=deeds, most=found["states"] - 1), {})
            self.refused(TooLong, ways, weave, deeds=deeds, most=0)
            self.assertEqual(all_looks(weave), ahead)

    def test_a_thousand_where_none_is_told(self):
        # Of 1084 states, and fewer behind a step.
        weave = Weave(RING_WAYS["turned"][0])
        self.assertEqual(ways(weave, most=1084)["states"], 1084)
        self.refused(TooLong, ways, weave)
        led(weave, [("take", 0, 0)])
        many = ways(weave, most=1084)["states"]
        self.assertLess(many, 1000)
        self.assertEqual(ways(weave)["states"], many)

    def test_what_is_handed_in_stays(self):
        deeds = [("cut", 0), ("mend", 0)]
        weave = Weave(TWO)
        ways(weave, deeds=deeds)
        self.assertEqual(deeds, [("cut", 0), ("mend", 0)])
        self.assertRaises(TypeError, ways, weave, deeds)

    def test_told_ways_are_new(self):
        weave = Weave(RING_WAYS["kept"][0], rule="kept")
        ways(weave)["ring"].clear()
        self.assertEqual(len(ways(weave=weave, most=1000, deeds=())["ring"]), 8)


class Examples(Case):
    def test_each_wrong_rule(self):
        for rule in RULES[1:]:
            found = example(rule)
            self.assertEqual((type(found), len(found)), (tuple, 2))
            net, way = found
            self.assertEqual((type(net), type(way)), (Net, list))
            weave = Weave(net, rule=rule)
            for deed in way:
                self.assertIs(type(deed), tuple)
                self.assertFalse(has_ring(net, weave.open_links()), rule)
                led(weave, [deed])
            self.assertTrue(has_ring(net, weave.open_links()), rule)

    def test_by_the_right_rule_they_lead_to_none(self):
        for rule in RULES[1:]:
            net, way = example(rule=rule)
            weave = Weave(net)
            for deed in way:
                is_done(weave, deed)
                self.assertFalse(has_ring(net, weave.open_links()))

    def test_told_anew(self):
        for rule in RULES[1:]:
            example(rule)[1].append(("cut", 0))
            self.assertEqual(example(rule)[1], RING_WAYS[rule][1])

    def test_no_wrong_rule(self):
        for thing in NO_NUMBERS + [RIGHT, "Hasty", "hasty ", 1, ["hasty"], ("hasty",), RULES, nested(5000)]:
            with self.subTest():
                self.assertEqual(self.refused(NoRule, example, thing), {})


if __name__ == "__main__":
    unittest.main()

import unittest

from plain import PlainWeave, all_looks, led, some_deed, some_net
from ringless.errors import (
    BadLog,
    Cut,
    NoDeed,
    NoHall,
    NoLetter,
    NoLink,
    Runs,
    Stands,
    Stopped,
)
from ringless.logs import first_wrong, logged, replayed
from ringless.nets import Net
from ringless.weaves import Weave
from things import NO_NUMBERS, Case, Dice, nested

NET = Net([0, 1, 2], [(1, 0, 2), (2, 1, 1), (0, 1, 2)])
DEEDS = [("take", 0, 1), ("take", 0, 0), ("take", 0, 0), ("take", 0, 0)]
DEEDS += [("cut", 2), ("stop", 0), ("start", 0), ("mend", 2)]
LOG = [
    (("take", 0, 1), [
        (0, 1, ("say", 2, 0, 2)),
        (0, 1, ("agree", 1)),
        (1, 1, ("say", 2, 0, 2)),
        (2, 1, ("say", 2, 0, 2)),
    ], []),
    (("take", 0, 0), [], []),
    (("take", 0, 0), [], []),
    (("take", 0, 0), [], [0]),
    (("cut", 2), [], [0]),
    (("stop", 0), [(1, 1, ("say", 3, 1, 0))], []),
    (("start", 0), [(0, 0, ("say", 1, 0, 0)), (0, 1, ("say", 1, 1, 0))], []),
    (("mend", 2), [(2, 0, ("say", 1, 0, 0)), (2, 1, ("say", 1, 1, 0))], []),
]


def some_deeds(dice, net, many):
    """Deeds that aren't refused, with the log of them by the plain weave."""
    plain, log = PlainWeave(net, "right"), []
    weave = Weave(net)
    for _ in range(many):
        deed = some_deed(dice, net, weave.waiting())
        try:
            led(weave, [deed] if deed else [])
        except ValueError:
            continue
        if deed:
            plain.do(*deed)
            log.append((deed, plain.posted, plain.looks()["open_links"]))
    return log


class Logging(Case):
    def test_rows(self):
        found = logged(NET, DEEDS)
        self.assertEqual(found, LOG)
        self.assertIs(type(found), list)
        for row in found:
            self.assertEqual([type(part) for part in row], [tuple, list, list])
            self.assertTrue(all(type(post) is tuple and type(post[2]) is tuple for post in row[1]))

    def test_no_deeds(self):
        self.assertEqual(logged(NET, []), [])
        self.assertEqual(logged(net=NET, deeds=[]), [])

    def test_the_lesser_hall_first(self):
        # Both halls post by the cut and by the mend of a link.
        net = Net([1, 2, 3, 4], [(2, 1, 5), (1, 2, 4), (3, 1, 1), (2, 4, 1)])
        deeds = [("take", 0, 2), ("take", 1, 2), ("take", 0, 1), ("cut", 0), ("mend", 0)]
        self.assertEqual([row[1] for row in logged(net, deeds)][-1], [
            (0, 1, ("say", 1, 1, 0)),
            (0, 2, ("say", 1, 1, 4)),
        ])

    def test_rising_links_where_a_hall_starts(self):
        net = Net([5, 3, 4], [(4, 3, 1), (3, 5, 1), (4, 3, 1)])
        self.assertEqual(logged(net, [("stop", 3), ("start", 3)])[1][1], [
            (0, 3, ("say", 1, 3, 0)),
            (1, 3, ("say", 1, 3, 0)),
            (2, 3, ("say", 1, 3, 0)),
            (0, 4, ("say", 1, 4, 0)),
            (1, 5, ("say", 1, 5, 0)),
            (2, 4, ("say", 1, 4, 0)),
        ])

    def test_what_is_lost_is_not_told(self):
        # Hall 1 stands by link 0, then by link 2, then by itself; what it says by link 2 is lost.
        log = logged(NET, [("take", 0, 1), ("take", 2, 1), ("stop", 0)])
        self.assertEqual(log[1][1], [(2, 1, ("agree", 1))])
        self.assertEqual(log[2][1], [(1, 1, ("say", 3, 1, 0))])
        net = Net([0, 1, 2], [(1, 0, 1), (2, 1, 1), (0, 1, 2)])
        log = logged(net, [("take", 0, 1), ("take", 2, 1), ("stop", 0)])
        self.assertEqual(log[2][1], [(1, 1, ("say", 3, 0, 2)), (1, 1, ("say", 4, 1, 0))])

    def test_links_that_do_not_run(self):
        log = logged(NET, [("stop", 2), ("cut", 1), ("mend", 1), ("start", 2)])
        self.assertEqual([row[1] for row in log[:3]], [[], [], []])

    def test_as_the_plain_one(self):
        for seed in range(30):
            dice = Dice(seed)
            net = some_net(dice, 6, 8)
            log = some_deeds(dice, net, 40)
            self.assertEqual(logged(net, [row[0] for row in log]), log)
            self.assertIsNone(first_wrong(net, log))
            self.assertEqual(replayed(net, log).log(), [row[0] for row in log])

    def test_refused_as_the_deeds_are(self):
        first = ("take", 0, 1)
        rows = [
            (NoLink, {"number": 3}, ("cut", 3)),
            (NoLink, {"number": None}, ("take", None, 7)),
            (NoHall, {"number": 7}, ("stop", 7)),
            (NoHall, {"number": 2}, ("take", 0, 2)),
            (NoLetter, {"link": 0, "hall": 1}, ("take", 0, 1)),
            (Runs, {"number": 0}, ("mend", 0)),
            (Stands, {"number": 2}, ("start", 2)),
        ]
        for error, told, deed in rows:
            self.assertEqual(self.refused(error, logged, NET, [first, deed, ("cut", 9)]), told)
        self.refused_number(Cut, 1, logged, NET, [("cut", 1), ("cut", 1)])
        self.refused_number(Stopped, 1, logged, NET, [("stop", 1), ("stop", 1)])

    def test_no_deed_comes_first(self):
        for thing in NO_NUMBERS + [0, ["cut", 0], ("cut",), ("cut", 0, 0), ("flush", 0, 1), (), nested(5000)]:
            with self.subTest():
                self.assertEqual(self.refused(NoDeed, logged, NET, [("cut", 99), thing, None]), {"at": 1})
        for thing in (None, 0, "", (), (("cut", 0),), {}, "cut"):
            self.assertEqual(self.refused(NoDeed, logged, NET, thing), {"at": 0})

    def test_what_is_handed_in_stays(self):
        deeds = list(DEEDS)
        log = logged(NET, deeds)
        deeds.clear()
        self.assertEqual(log, LOG)
        log[0][1].clear()
        self.assertEqual(logged(NET, DEEDS), LOG)


class FirstWrong(Case):
    def assert_wrong(self, at, log, net=NET):
        self.assertEqual(first_wrong(net, log), at)
        if at is None:
            replayed(net, log)
        else:
            self.assertEqual(self.refused(BadLog, replayed, net, log), {"row": at})

    def test_none(self):
        self.assert_wrong(None, [])
        self.assert_wrong(None, LOG)
        for many in range(len(LOG)):
            self.assert_wrong(None, LOG[:many])
        self.assertIsNone(first_wrong(net=NET, log=LOG))

    def test_no_list(self):
        for thing in NO_NUMBERS + [0, tuple(LOG), {0: LOG[0]}]:
            if not isinstance(thing, list):
                self.assert_wrong(0, thing)

    def test_no_row(self):
        things = NO_NUMBERS + [0, (), (("cut", 0), []), (("cut", 0), [], [], []), [("cut", 0), [], []], nested(5000)]
        things += [(None, [], []), (("cut",), [], []), (["cut", 0], [], []), ("cut", [], []), (("flush", 0, 1), [], [])]
        for thing in things:
            for place in (0, 3, 8):
                self.assert_wrong(place, LOG[:place] + [thing] + LOG[place:])

    def test_a_deed_that_is_refused(self):
        for place, deed in ((0, ("mend", 0)), (1, ("take", 0, 1)), (2, ("cut", 3)), (5, ("cut", 2)), (8, ("stop", 5))):
            self.assert_wrong(place, LOG[:place] + [(deed, [], [])] + LOG[place:])
        self.assert_wrong(0, [(("cut", nested(5000)), [], [])])

    def test_one_thing_otherwise_at_any_place(self):
        for place, (deed, posts, opened) in enumerate(LOG):
            for other in self.others((deed, posts, opened)):
                with self.subTest(place=place):
                    self.assert_wrong(place, LOG[:place] + [other] + LOG[place + 1 :])

    def others(self, row):
        """Rows with one thing otherwise, but for the deed's word and things."""
        deed, posts, opened = row
        rows = [(deed, posts, opened + [1]), (deed, posts, [1] + opened), (deed, posts, opened * 2 or [0])]
        rows += [(deed, posts + posts[:1], opened) if posts else (deed, [(0, 1, ("agree", 1))], opened)]
        rows += [(deed, tuple(posts), opened), (deed, posts, tuple(opened)), (deed, opened, None), (deed, None, opened)]
        rows += [(deed, posts, opened[1:])] if opened else []
        for place, post in enumerate(posts):
            for change in self.changes(post):
                rows.append((deed, posts[:place] + change + posts[place + 1 :], opened))
        if len(posts) > 1:
            rows.append((deed, posts[::-1], opened))
        return rows

    def changes(self, post):
        link, hall, letter = post
        told = [(link + 1, hall, letter), (link, hall + 1, letter), (link, hall, letter[:-1]), (link, hall)]
        told += [(link, hall, list(letter)), (link, hall, letter + (0,)), (link, hall, ("says",) + letter[1:])]
        told += [[link, hall, letter], (link, hall, letter, 0), None, (link, hall, None), (None, hall, letter)]
        for place in range(1, len(letter)):
            told.append((link, hall, letter[:place] + (letter[place] + 1,) + letter[place + 1 :]))
            told.append((link, hall, letter[:place] + (str(letter[place]),) + letter[place + 1 :]))
        return [[change] for change in told] + [[], [post, post]]

    def test_truths_are_no_numbers(self):
        deed, posts, opened = LOG[5]
        self.assertEqual(posts, [(True, True, ("say", 3, True, False))])
        for other in ((True, 1, ("say", 3, 1, 0)), (1, True, ("say", 3, 1, 0)), (1, 1, ("say", 3, True, 0)),
                      (1, 1, ("say", 3, 1, False)), (1.0, 1, ("say", 3, 1, 0))):
            self.assert_wrong(5, LOG[:5] + [(deed, [other], opened)])
        deed, posts, opened = LOG[3]
        self.assert_wrong(3, LOG[:3] + [(deed, posts, [False])])
        self.assert_wrong(0, [(("cut", True), [], [])])

    def test_another_deed(self):
        # A deed with another's posts tells otherwise than is done.
        self.assert_wrong(0, [(("take", 0, 1), [], [])])
        self.assert_wrong(0, [(("take", 2, 1), *LOG[0][1:])])
        self.assert_wrong(5, LOG[:5] + LOG[6:])
        self.assert_wrong(4, LOG[:4] + LOG[6:7])

    def test_the_first_one(self):
        self.assert_wrong(2, LOG[:2] + [None] + LOG[2:4] + [None])
        self.assert_wrong(1, LOG[:1] + [(("take", 0, 0), [], [0]), 5])

    def test_another_net(self):
        # Another cost is told by the first say.
        self.assert_wrong(0, LOG, Net([0, 1, 2], [(1, 0, 1), (2, 1, 1), (0, 1, 2)]))
        self.assert_wrong(0, LOG, Net([5], []))

    def test_what_is_handed_in_stays(self):
        log = [(deed, list(posts), list(opened)) for deed, posts, opened in LOG]
        first_wrong(NET, log)
        replayed(NET, log)
        self.assertEqual(log, LOG)


class Replaying(Case):
    def test_the_weave_behind(self):
        weave = replayed(NET, LOG)
        self.assertIs(type(weave), Weave)
        self.assertEqual(all_looks(weave), all_looks(led(Weave(NET), DEEDS)))
        self.assertEqual(weave.log(), DEEDS)
        self.assertEqual(all_looks(replayed(net=NET, log=[])), all_looks(Weave(NET)))

    def test_weaves_apart(self):
        one, other = replayed(NET, LOG), replayed(NET, LOG)
        one.stop(1)
        self.assertEqual(other.away(), [])


if __name__ == "__main__":
    unittest.main()

"""What the document promises over the whole program, on nets as large as may be."""

import unittest

from plain import has_ring, is_done, led, some_deed
from ringless.calls import Calls
from ringless.desk import Desk, answers
from ringless.dues import due, wrong_at
from ringless.logs import first_wrong, logged, replayed
from ringless.nets import Net
from ringless.nettexts import net_text
from ringless.rings import falling, falls, peeling, peels, ring
from ringless.rules import RULES
from ringless.settling import is_settled, settled
from ringless.ways import example, ways
from ringless.weaves import Weave
from things import Case, Dice


def full_net(dice):
    """Eight halls, twelve links."""
    halls = dice.some(range(1000), 8)
    return Net(halls, [(*dice.some(halls, 2), 1 + dice.roll(30)) for _ in range(12)])


class Whole(Case):
    def assert_no_ring(self, weave):
        net, links = weave.net(), weave.open_links()
        self.assertFalse(has_ring(net, links))
        self.assertIsNone(ring(net, links))
        self.assertTrue(peels(net, links, peeling(net, links)))
        self.assertTrue(falls(weave, falling(weave)))

    def assert_due(self, weave):
        paper = due(weave.net(), cut=weave.cuts(), away=weave.away())
        self.assertEqual(wrong_at(weave.net(), paper, cut=weave.cuts(), away=weave.away()), [])
        self.assertEqual(weave.standings(), {hall: row[:2] for hall, row in paper.items()})
        self.assertEqual(weave.open_links(), sorted(row[2] for row in paper.values() if row[2] is not None))

    def deed_of(self, dice, weave):
        """Letters are taken as they come, but at some doors seldom, so that some news is very old."""
        waiting = [door for door in weave.waiting() if door[0] % 4 or not dice.roll(9)]
        return some_deed(dice, weave.net(), waiting, 40)

    def test_no_ring_and_one_due_tree(self):
        for seed in range(12):
            dice = Dice(seed)
            weave = Weave(full_net(dice))
            for _ in range(400):
                if is_done(weave, self.deed_of(dice, weave)):
                    self.assert_no_ring(weave)
            schedule = [dice.roll(24) for _ in range(500)]
            many = settled(weave.twin(), schedule=schedule, most=100000)
            for place in range(many):
                weave.take(*weave.waiting()[(schedule[place] if place < 500 else 0) % len(weave.waiting())])
                if not place % 7:
                    self.assert_no_ring(weave)
            self.assertTrue(is_settled(weave))
            self.assert_due(weave)

    def test_a_long_log(self):
        dice = Dice(3)
        weave = Weave(full_net(dice))
        for _ in range(700):
            is_done(weave, self.deed_of(dice, weave))
        log = logged(weave.net(), weave.log())
        self.assertEqual(len(log), len(weave.log()))
        self.assertIsNone(first_wrong(weave.net(), log))
        self.assertEqual(replayed(weave.net(), log).letters(), weave.letters())
        self.assertEqual(log[-1][2], weave.open_links())

    def test_the_desk_as_its_parts(self):
        dice = Dice(8)
        net = full_net(dice)
        weave, rows, told = Weave(net), [], []
        for _ in range(300):
            deed = some_deed(dice, net, weave.waiting())
            done = is_done(weave, deed)
            if deed:
                rows.append(" ".join(str(part) for part in deed))
                told.append("ok" if done else "refused")
        found = answers(net_text(net) + "go\n" + "\n".join(rows + ["settle", "due", "ring"]))
        self.assertEqual([answer.split(" ")[0] for answer in found[: len(rows)]], told)
        self.assertEqual(found[len(rows) :], [str(settled(weave)), "yes", "none"])

    def test_calls_on_full_nets(self):
        for seed in range(4):
            dice = Dice(seed)
            net = full_net(dice)
            weave = Weave(net)
            settled(weave)
            calls = Calls(weave)
            paper = due(net)
            for hall in net.halls():
                calls.live("anna", hall)
                part = [other for other in net.halls() if paper[other][0] == paper[hall][0]]
                self.assertEqual(calls.call("anna"), part)

    def test_each_wrong_rule_has_its_ring(self):
        for rule in RULES[1:]:
            net, way = example(rule)
            weave = led(Weave(net, rule=rule), way)
            self.assertIsNotNone(ring(net, weave.open_links()))
            self.assertIsNone(peeling(net, weave.open_links()))
            self.assertFalse(falls(weave, falling(weave)))
            self.assertEqual(ways(weave, most=5000)["ring"], [])

    def test_a_desk_alone(self):
        self.assertEqual(Desk(Net([0], [])).answer("settle"), "0")


if __name__ == "__main__":
    unittest.main()

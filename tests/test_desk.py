import unittest

from plain import RING_WAYS, led, settled_by
from ringless.calls import Calls
from ringless.desk import Desk, answers
from ringless.nets import Net
from ringless.weaves import Weave
from things import NO_NUMBERS, Case, nested

NET = Net([7, 3, 9, 5], [(7, 3, 2), (5, 7, 1), (3, 7, 4)])
TEXT = "hall 7\nhall 3\nhall 9\nhall 5\nlink 7 3 2\nlink 5 7 1\nlink 3 7 4\n"


class DeskCase(Case):
    def assert_answers(self, rows, net=NET):
        """rows: pairs of a row and its answer, one behind the other."""
        desk = Desk(net)
        for place, (row, answer) in enumerate(rows):
            self.assertEqual(desk.answer(row), answer, (place, row))
        return desk


class Deeds(DeskCase):
    def test_each(self):
        self.assert_answers([
            ("take 0 7", "ok"),
            ("stands 7", "3 2"),
            ("take 0 7", "refused noletter"),
            ("cut 0", "ok"),
            ("role 0 3", "cut"),
            ("cut 0", "refused cut"),
            ("stands 7", "7 0"),
            ("mend 0", "ok"),
            ("mend 0", "refused runs"),
            ("stop 5", "ok"),
            ("stop 5", "refused stopped"),
            ("stands 5", "stopped"),
            ("start 5", "ok"),
            ("start 5", "refused stands"),
            ("stands 5", "5 0"),
        ])

    def test_as_a_weave_does(self):
        desk, weave = Desk(NET), Weave(NET)
        for row in ("take 2 7", "take 1 5", "take 1 5", "cut 2", "stop 3", "mend 2", "start 3", "take 0 7", "take 1 5"):
            word, *things = row.split()
            self.assertEqual(desk.answer(row), "ok")
            led(weave, [(word, *map(int, things))])
            self.assertEqual(desk.answer("waits"), " ".join(f"{link}.{hall}" for link, hall in weave.waiting()))
            for hall in (3, 5, 7, 9):
                told = "{} {}".format(*weave.standings()[hall]) if hall not in weave.away() else "stopped"
                self.assertEqual(desk.answer(f"stands {hall}"), told)

    def test_refused(self):
        self.assert_answers([
            ("take 3 7", "refused nolink"),
            ("take 3 4", "refused nolink"),
            ("take 0 4", "refused nohall"),
            ("take 0 5", "refused nohall"),
            ("cut 3", "refused nolink"),
            ("mend 999", "refused nolink"),
            ("stop 4", "refused nohall"),
            ("start 0", "refused nohall"),
            ("flush 3 4", "refused nolink"),
            ("flush 0 5", "refused nohall"),
            ("flush 0 7", "refused noletter"),
            ("waits", "0.3 0.7 1.5 1.7 2.3 2.7"),
        ])

    def test_flush(self):
        self.assert_answers([
            ("take 0 7", "ok"),
            ("flush 0 7", "refused noletter"),
            ("flush 1 5", "ok"),
            ("flush 1 5", "refused noletter"),
            ("flush 0 3", "ok"),
        ])


class Settling(DeskCase):
    def test_how_many_letters(self):
        weave = Weave(NET)
        many = len(settled_by(weave, []))
        self.assert_answers([
            ("settle", str(many)),
            ("waits", "none"),
            ("settle", "0"),
            ("open", "0 1"),
            ("due", "yes"),
        ])

    def test_the_first_of_waiting_each_time(self):
        # By the kept rule other orders end otherwise, but the desk is of the right one: only the number tells.
        net = RING_WAYS["turned"][0]
        numbers = set()
        for schedule in ([], [1] * 99, [2, 1, 3] * 30, [5, 4] * 40):
            numbers.add(len(settled_by(Weave(net), schedule)))
        self.assertGreater(len(numbers), 1)
        self.assert_answers([("settle", str(len(settled_by(Weave(net), []))))], net)

    def test_then_all_flushes(self):
        desk = self.assert_answers([("settle", "13")])
        for link, one, other, _ in [(link, *row) for link, row in enumerate(NET.links())]:
            for hall in (one, other):
                self.assertEqual(desk.answer(f"flush {link} {hall}"), "refused noletter")

    def test_flushes_alone_are_no_letters(self):
        self.assert_answers([
            ("settle", "13"),
            ("cut 1", "ok"),
            ("waits", "none"),
            ("settle", "0"),
            ("flush 0 3", "refused noletter"),
            ("flush 2 3", "refused noletter"),
        ])


class Houses(DeskCase):
    def test_live_leave_and_call(self):
        self.assert_answers([
            ("settle", "13"),
            ("live anna 5", "ok"),
            ("live bob 3", "ok"),
            ("live carl 9", "ok"),
            ("call anna", "3 5 7"),
            ("call bob anna", "3 5 7"),
            ("live dora 7", "ok"),
            ("call dora anna", "5 7"),
            # Hall 7 knows the way to bob.
            ("call dora bob", "3 7"),
            ("call anna dora", "5 7"),
            ("call carl", "9"),
            ("call carl anna", "9"),
            ("leave carl", "ok"),
            ("call carl", "refused nohouse"),
            ("leave carl", "refused nohouse"),
            ("live anna 9", "ok"),
            ("call anna", "9"),
        ])

    def test_refused(self):
        self.assert_answers([
            ("live Anna 3", "refused badhouse"),
            ("live annabel 3", "refused badhouse"),
            ("live 7 3", "refused badhouse"),
            ("live 1000 4", "refused badhouse"),
            ("live a1 3", "refused badhouse"),
            ("live anna 4", "refused nohall"),
            ("stop 3", "ok"),
            ("live anna 3", "refused stopped"),
            ("live ANNA 3", "refused badhouse"),
            ("leave anna", "refused nohouse"),
            ("leave 7", "refused nohouse"),
            ("call 7", "refused nohouse"),
            ("call anna 7", "refused nohouse"),
            ("live anna 7", "ok"),
            ("call anna 7", "refused badhouse"),
            ("call anna zz", "7"),
            ("stop 7", "ok"),
            ("call anna", "refused nohouse"),
        ])

    def test_words_of_deeds_are_houses_too(self):
        self.assert_answers([("live go 9", "ok"), ("live take 9", "ok"), ("call go take", "9"), ("leave take", "ok")])


class Looks(DeskCase):
    def test_stands(self):
        self.assert_answers([
            ("stands 7", "7 0"),
            ("stands 9", "9 0"),
            ("stop 9", "ok"),
            ("stands 9", "stopped"),
            ("stands 4", "refused nohall"),
            ("stands 0", "refused nohall"),
        ])

    def test_open_and_waits(self):
        self.assert_answers([
            ("open", "none"),
            ("waits", "0.3 0.7 1.5 1.7 2.3 2.7"),
            ("settle", "13"),
            ("open", "0 1"),
            ("waits", "none"),
            ("cut 0", "ok"),
            ("waits", "1.5 2.3"),
            ("stop 5", "ok"),
            ("waits", "2.3"),
        ])

    def test_role(self):
        self.assert_answers([
            ("role 0 7", "leads"),
            ("settle", "13"),
            ("role 0 7", "root"),
            ("role 0 3", "leads"),
            ("role 2 7", "beside"),
            ("cut 2", "ok"),
            ("role 2 7", "cut"),
            ("role 3 7", "refused nolink"),
            ("role 3 4", "refused nolink"),
            ("role 0 4", "refused nohall"),
            ("role 0 5", "refused nohall"),
            ("stop 7", "ok"),
            ("role 0 7", "refused stopped"),
            ("role 2 7", "refused stopped"),
            ("role 0 5", "refused nohall"),
            ("role 3 7", "refused nolink"),
            ("role 0 3", "cut"),
        ])

    def test_ring(self):
        # By the right rule there is none.
        desk = self.assert_answers([("ring", "none"), ("settle", "13"), ("ring", "none")])
        # By a wrong one there is.
        desk._calls = Calls(Weave(NET, rule="hasty"))
        self.assertEqual(desk.answer("ring"), "0 2")

    def test_due(self):
        self.assert_answers([
            ("due", "no"),
            ("take 0 7", "ok"),
            ("take 1 5", "ok"),
            ("due", "no"),
            ("take 1 5", "ok"),
            # The standings are due's, though letters wait.
            ("due", "yes"),
            ("cut 0", "ok"),
            ("due", "no"),
            ("settle", "41"),
            ("due", "yes"),
            ("stop 3", "ok"),
            ("due", "no"),
            ("settle", "9"),
            ("due", "yes"),
            ("stands 5", "5 0"),
        ])

    def test_due_of_cut_links_and_stopped_halls(self):
        net = Net([1, 2], [(1, 2, 1), (1, 2, 5)])
        self.assert_answers([
            ("settle", "8"),
            ("due", "yes"),
            ("cut 0", "ok"),
            ("stands 2", "1 5"),
            ("due", "yes"),
            ("stop 1", "ok"),
            ("stands 2", "2 0"),
            ("due", "yes"),
        ], net)


class Rows(DeskCase):
    def test_blanks(self):
        for row in ("take 0 7", " take 0 7", "take 0 7 ", "  take   0    7   "):
            self.assert_answers([(row, "ok"), ("stands 7", "3 2")])
        self.assert_answers([("  settle ", "13"), ("   live   anna    5 ", "ok"), (" call  anna ", "3 5 7")])

    def test_no_words(self):
        for row in ("", " ", "      "):
            self.assert_answers([(row, "")])

    def test_no_row(self):
        rows = ["take", "take 0", "take 0 7 7", "cut", "cut 0 7", "mend", "mend 0 0", "stop", "stop 3 3", "start"]
        rows += ["start 3 3", "flush", "flush 0", "flush 0 7 0", "settle 1", "settle all", "live", "live anna"]
        rows += ["live anna 3 3", "live 3", "live anna bob", "leave", "leave anna bob", "call", "call a b c"]
        rows += ["stands", "stands 3 3", "open 1", "open open", "waits 0", "role", "role 0", "role 0 7 7", "ring 0"]
        rows += ["due 1", "go", "none", "ok", "Take 0 7", "TAKE 0 7", "takes 0 7", "take,0,7", "0 7", "take0 7"]
        rows += ["hall 3", "link 0 7 3", "no row", "refused cut", "begin", "wait", "stand 3", "mark", "taken 0 7"]
        desk = self.assert_answers([(row, "no row") for row in rows])
        self.assertEqual(desk.answer("waits"), "0.3 0.7 1.5 1.7 2.3 2.7")

    def test_numbers(self):
        words = ("00", "01", "007", "07", "1000", "0000", "9999", "-1", "+1", "1.0", "1_0", "0x1", "a", "1a", "None")
        for word in words:
            rows = [f"cut {word}", f"mend {word}", f"stop {word}", f"start {word}", f"stands {word}", f"live a {word}"]
            rows += [f"take {word} 7", f"take 0 {word}", f"flush {word} 7", f"flush 0 {word}", f"role {word} 7"]
            self.assert_answers([(row, "no row") for row in rows + [f"role 0 {word}"]])
        for word in ("0", "9", "10", "99", "100", "999"):
            self.assert_answers([(f"stands {word}", "9 0" if word == "9" else "refused nohall")])
        net = Net([0, 999, 100], [(0, 999, 1)])
        self.assert_answers([("take 0 999", "ok"), ("stands 999", "0 1"), ("stands 0", "0 0"), ("stop 100", "ok")], net)

    def test_signs_that_are_no_blanks(self):
        for row in ("cut\t0", "cut 0\n", "\ncut 0", "open\t", "cut 0\r", "stop \u0663", "cut\u00a00"):
            self.assert_answers([(row, "no row")])

    def test_no_text(self):
        for thing in NO_NUMBERS + [0, ["open"], b"open"]:
            if not isinstance(thing, str):
                self.assert_answers([(thing, "no row")])

    def test_what_is_refused_changes_nothing(self):
        rows = ["take 0 5", "cut 9", "mend 0", "stop 4", "start 7", "flush 0 7", "live anna 4", "live A 3", "leave x"]
        rows += ["call x", "call bob A", "role 9 9", "stands 8", "bla", ""]
        desk, other = Desk(NET), Desk(NET)
        for row in ("live bob 3", "take 0 7"):
            desk.answer(row)
            other.answer(row)
        for row in rows:
            self.assertNotEqual(desk.answer(row), "ok")
        looks = ["waits", "open", "flush 0 3", "settle", "open", "call bob"]
        self.assertEqual([desk.answer(row) for row in looks], [other.answer(row) for row in looks])
        self.assertEqual(desk.answer("stands 7"), "3 2")

    def test_desks_apart(self):
        one, other = Desk(net=NET), Desk(NET)
        one.answer(row="stop 3")
        self.assertEqual((one.answer("stands 3"), other.answer("stands 3")), ("stopped", "3 0"))


class Texts(DeskCase):
    def test_the_answers_behind_go(self):
        rows = "go\ntake 0 7\nstands 7\n\n  open \ncut 9\nbla"
        self.assertEqual(answers(TEXT + rows), ["ok", "3 2", "", "none", "refused nolink", "no row"])

    def test_what_stands_behind_the_last_line_feed_is_a_row_too(self):
        self.assertEqual(answers(TEXT + "go\nopen\n"), ["none", ""])
        self.assertEqual(answers(TEXT + "go\nopen"), ["none"])
        self.assertEqual(answers(TEXT + "go\nopen\n\n \n"), ["none", "", "", ""])
        self.assertEqual(answers(TEXT + "go\n"), [""])
        self.assertEqual(answers(TEXT + "go"), [])

    def test_without_a_go(self):
        self.assertEqual(answers(TEXT), [])
        self.assertEqual(answers(TEXT + "\n \n"), [])
        self.assertEqual(answers(TEXT[:-1]), [])
        self.assertEqual(answers("hall 4"), [])

    def test_blanks_at_the_ends_of_go(self):
        for go in ("go", " go", "go ", "   go  "):
            self.assertEqual(answers(TEXT + go + "\nopen"), ["none"])

    def test_other_rows_are_no_go(self):
        for go in ("Go", "GO", "go go", "go 1", "g o", "gogo", "go\t", "\tgo", "go."):
            self.assertEqual(answers(TEXT + go + "\nopen"), ["no net"])

    def test_the_first_go(self):
        self.assertEqual(answers(TEXT + "go\ngo\nopen\n go"), ["no row", "none", "no row"])
        self.assertEqual(answers("go\n" + TEXT + "go\nopen"), ["no net"])

    def test_no_net(self):
        texts = ["", "\n", "go", "go\nopen", "\n\ngo\n", "hall 7\nhall 7", "hall 7\nhall 7\ngo\nopen", "open", "hall"]
        texts += ["hall 07\ngo\nopen", "hall 7\nlink 7 8 1\ngo", "hall 7\nlink 7 7 1", "link 7 8 1\nhall 7\nhall 8"]
        texts += ["hall 7\nhall 8\nlink 7 8 31\ngo\nopen", "hall 7\nopen\ngo\nopen", "hall 1000\ngo"]
        texts.append(TEXT + "hall 1\ngo")
        for text in texts:
            self.assertEqual(answers(text), ["no net"])

    def test_no_text(self):
        for thing in NO_NUMBERS + [0, nested(5000), [TEXT], b"hall 7\ngo\nopen"]:
            self.assertEqual(answers(thing), ["no net"])

    def test_blank_rows_ahead_of_go(self):
        self.assertEqual(answers("\n  hall   7\n\nhall 8 \nlink 8  7 2\n   \n go\nsettle\nstands 8"), ["4", "7 2"])

    def test_by_name(self):
        self.assertEqual(answers(text="hall 7\ngo\nstands 7"), ["7 0"])

    def test_a_long_text(self):
        rows = ["settle", "live anna 5", "live bob 3", "call anna", "cut 0", "call anna bob", "settle", "call bob anna"]
        rows += ["stop 3", "call bob", "start 3", "live bob 3", "mend 0", "settle", "call bob", "call anna bob", "due"]
        rows.append("ring")
        self.assertEqual(answers(TEXT + "go\n" + "\n".join(rows)), [
            "13",
            "ok",
            "ok",
            "3 5 7",
            "ok",
            "5",
            "7",
            "3 5 7",
            "ok",
            "refused nohouse",
            "ok",
            "ok",
            "ok",
            "15",
            "3 5 7",
            "3 5 7",
            "yes",
            "none",
        ])


if __name__ == "__main__":
    unittest.main()

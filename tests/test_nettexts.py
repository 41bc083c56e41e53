import unittest

from ringless.errors import BadNet, NoText
from ringless.nets import Net
from ringless.nettexts import net_text, read_net
from things import NO_NUMBERS, Case, nested

TEXT = "hall 12\nhall 7\nhall 0\nlink 7 12 3\nlink 12 0 30\nlink 12 7 1\n"


def ordinary():
    return Net([12, 7, 0], [(7, 12, 3), (12, 0, 30), (12, 7, 1)])


class Text(Case):
    def test_row_by_row(self):
        self.assertEqual(net_text(ordinary()), TEXT)

    def test_halls_in_the_order_handed_in(self):
        self.assertEqual(net_text(Net([5, 999, 0, 8], [])), "hall 5\nhall 999\nhall 0\nhall 8\n")

    def test_one_hall(self):
        self.assertEqual(net_text(Net([0], [])), "hall 0\n")

    def test_by_name(self):
        self.assertEqual(net_text(net=ordinary()), TEXT)

    def test_the_net_stays(self):
        net = ordinary()
        net_text(net)
        self.assertEqual(net, ordinary())


class Reading(Case):
    def test_the_net_of_a_text(self):
        self.assertEqual(read_net(TEXT), ordinary())

    def test_by_name(self):
        self.assertEqual(read_net(text=TEXT), ordinary())

    def test_there_and_back(self):
        nets = [
            ordinary(),
            Net([0], []),
            Net([999, 0], [(999, 0, 30)] * 12),
            Net([7, 6, 5, 4, 3, 2, 1, 0], [(0, 7, 1), (7, 0, 1)]),
        ]
        for net in nets:
            self.assertEqual(read_net(net_text(net)), net)
            self.assertEqual(net_text(read_net(net_text(net))), net_text(net))

    def test_the_order_of_the_halls_is_read(self):
        self.assertEqual(net_text(read_net("hall 9\nhall 3\nhall 5")), "hall 9\nhall 3\nhall 5\n")

    def test_blanks_more(self):
        text = "  hall   12 \nhall 7   \n hall  0\n   link 7  12   3  \nlink  12 0 30\n link 12 7 1 \n"
        self.assertEqual(read_net(text), ordinary())

    def test_rows_without_words(self):
        self.assertEqual(read_net("\n  \n" + TEXT.replace("\n", "\n\n   \n") + "\n \n\n"), ordinary())

    def test_the_last_line_feed_left_out(self):
        self.assertEqual(read_net(TEXT[:-1]), ordinary())
        self.assertEqual(read_net("hall 4"), Net([4], []))


class NoTexts(Case):
    def no_text(self, row, text):
        with self.subTest(text=text):
            self.assertEqual(self.refused(NoText, read_net, text), {"row": row})

    def test_what_is_no_text(self):
        for thing in NO_NUMBERS + [0, 7, ["hall 7"], ("hall 7",), nested(5000)]:
            if not isinstance(thing, str):
                with self.subTest():
                    self.assertEqual(self.refused(NoText, read_net, thing), {"row": 0})

    def test_a_nought_ahead(self):
        self.no_text(0, "hall 07\n")
        self.no_text(0, "hall 00\n")
        self.no_text(2, "hall 1\nhall 2\nlink 01 2 3\n")
        self.no_text(2, "hall 1\nhall 2\nlink 1 02 3\n")
        self.no_text(2, "hall 1\nhall 2\nlink 1 2 03\n")

    def test_more_than_four_figures(self):
        self.no_text(0, "hall 10000\n")
        self.no_text(0, "hall 00001\n")
        self.no_text(2, "hall 1\nhall 2\nlink 10000 2 3\n")
        self.no_text(2, "hall 1\nhall 2\nlink 1 10000 3\n")
        self.no_text(2, "hall 1\nhall 2\nlink 1 2 10000\n")

    def test_no_figures(self):
        for word in ("x", "-1", "+1", "1.", "1_0", "7a", "0x1", "True", "1,2", "\u00b2", "\u0663"):
            self.no_text(0, f"hall {word}")
            self.no_text(1, f"hall 1\nlink {word} 1 1")
            self.no_text(1, f"hall 1\nlink 1 {word} 1")
            self.no_text(1, f"hall 1\nlink 1 1 {word}")

    def test_too_few_words_or_too_many(self):
        for row in ("hall", "hall 1 2", "link", "link 1", "link 1 2", "link 1 2 3 4", "1", "hall1", "link 1 23"):
            self.no_text(0, row)
            self.no_text(1, f"hall 1\n{row}\nhall 2")

    def test_other_words(self):
        for row in ("Hall 1", "halls 1", "7 hall", "hall hall", "link 1 2 hall", "go", "net 1", "#"):
            self.no_text(0, row)
            self.no_text(2, f"hall 1\nhall 2\n{row}\n")
        self.no_text(2, "hall 1\nhall 2\nLink 1 2 3\n")
        self.no_text(2, "hall 1\nhall 2\nhall 1 2 3\n")
        self.no_text(2, "hall 1\nhall 2\nlink 1\n")

    def test_a_hall_behind_a_link(self):
        self.no_text(3, "hall 1\nhall 2\nlink 1 2 3\nhall 4\n")
        self.no_text(1, "link 1 2 3\nhall 1\nhall 2\n")

    def test_all_rows_count(self):
        self.no_text(3, "\n  \nhall 1\nhalls 2\n")
        self.no_text(5, "hall 1\n\nhall 2\nlink 1 2 3\n \nhall 3")
        self.no_text(4, "hall 1\n\n\n\nx")

    def test_the_first_one(self):
        self.no_text(1, "hall 1\nx\ny\n")
        self.no_text(2, "hall 1\nlink 1 2 3\nhall 2\nx\n")
        self.no_text(0, "x\nlink 1 2 3\nhall 2")


class NoNets(Case):
    def no_net(self, text):
        with self.subTest(text=text):
            self.assertEqual(self.refused(BadNet, read_net, text), {})

    def test_no_hall(self):
        self.no_net("")
        self.no_net("\n  \n")
        self.no_net("link 1 2 3\n")

    def test_four_figures_are_read(self):
        self.no_net("hall 1000\n")
        self.no_net("hall 9999\n")
        self.no_net("hall 1\nhall 2\nlink 1000 2 3\n")
        self.no_net("hall 1\nhall 2\nlink 1 2 9999\n")

    def test_what_makes_no_net(self):
        self.no_net("hall 1\nhall 1\n")
        self.no_net("".join(f"hall {hall}\n" for hall in range(9)))
        self.no_net("hall 1\nhall 2\nlink 1 1 3\n")
        self.no_net("hall 1\nhall 2\nlink 1 3 3\n")
        self.no_net("hall 1\nhall 2\nlink 1 2 0\n")
        self.no_net("hall 1\nhall 2\nlink 1 2 31\n")
        self.no_net("hall 1\nhall 2\n" + "link 1 2 3\n" * 13)

    def test_no_text_comes_ahead(self):
        self.assertEqual(self.refused(NoText, read_net, "hall 1\nhall 1\nx\n"), {"row": 2})
        self.assertEqual(self.refused(NoText, read_net, "hall 1000\nlink 1 1 0\nhall 2\n"), {"row": 2})


if __name__ == "__main__":
    unittest.main()

"""Nets as texts, a row for each hall and then one for each link."""

from ringless.errors import NoText
from ringless.nets import Net

MOST_FIGURES = 4


def net_text(net):
    """The text of a net: its halls in the order handed in, then its links."""
    halls = [f"hall {hall}\n" for hall in net.handed()]
    links = [f"link {one} {other} {cost}\n" for one, other, cost in net.links()]
    return "".join(halls + links)


def read_net(text):
    """The net that a text tells."""
    if not isinstance(text, str):
        raise NoText(0)
    halls = []
    links = []
    for at, row in enumerate(text.split("\n")):
        words = words_of(row)
        if _tells(words, "hall", 1) and not links:
            halls.append(int(words[1]))
        elif _tells(words, "link", 3):
            links.append(tuple([int(word) for word in words[1:]]))
        elif words:
            raise NoText(at)
    return Net(halls, links)


def words_of(row):
    """The words of a row, parted by a blank or more."""
    # Only blanks part words: split() without a blank would take other signs for blanks, too.
    return [word for word in row.split(" ") if word]


def _tells(words, first, many):
    return len(words) == 1 + many and words[0] == first and all([is_figures(word, MOST_FIGURES) for word in words[1:]])


def is_figures(word, most):
    """Whether a word is a number of at most so many figures, without a nought ahead of others."""
    # isdigit alone would take figures of other scripts.
    return (
        word.isascii()
        and word.isdigit()
        and len(word) <= most
        and (word == "0" or not word.startswith("0"))
    )

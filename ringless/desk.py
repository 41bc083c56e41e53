"""The desk: rows of words in, answers out."""

from ringless.calls import Calls
from ringless.dues import due
from ringless.errors import RingError, Stopped
from ringless.nettexts import is_figures, read_net, words_of
from ringless.rings import ring
from ringless.settling import is_settled
from ringless.weaves import Weave

MOST_FIGURES = 3

# The first word of a row and what stands behind it: n a number, h a house.
FORMS = (
    ("take", "n", "n"),
    ("cut", "n"),
    ("mend", "n"),
    ("stop", "n"),
    ("start", "n"),
    ("flush", "n", "n"),
    ("settle",),
    ("live", "h", "n"),
    ("leave", "h"),
    ("call", "h"),
    ("call", "h", "h"),
    ("stands", "n"),
    ("open",),
    ("waits",),
    ("role", "n", "n"),
    ("ring",),
    ("due",),
)


def answers(text):
    """The answers to the rows behind go, of a text that tells a net ahead of it."""
    if not isinstance(text, str):
        return ["no net"]
    rows = text.split("\n")
    places = [at for at, row in enumerate(rows) if row.strip(" ") == "go"]
    first = places[0] if places else len(rows)
    try:
        net = read_net("\n".join(rows[:first]))
    except RingError:
        return ["no net"]
    desk = Desk(net)
    return [desk.answer(row) for row in rows[first + 1 :]]


class Desk:
    """Rows to a new weave and its houses."""

    def __init__(self, net):
        self._net = net
        self._calls = Calls(Weave(net))

    def answer(self, row):
        """The answer to a row."""
        if not isinstance(row, str):
            return "no row"
        words = words_of(row)
        if not words:
            return ""
        forms = [form for form in FORMS if _is_of(words, form)]
        if not forms:
            return "no row"
        things = [int(word) if kind == "n" else word for word, kind in zip(words, forms[0])]
        try:
            return self._told(things[0], things[1:])
        except RingError as error:
            return "refused " + type(error).__name__.lower()

    def _told(self, word, things):
        if word == "settle":
            return str(self._settle())
        if word == "call":
            return _row(self._calls.call(*things))
        if word == "live":
            self._calls.live(things[0], things[1])
            return "ok"
        if word == "leave":
            self._calls.leave(things[0])
            return "ok"
        if word in ("stands", "open", "waits", "role", "ring", "due"):
            return self._look(word, things)
        self._calls.do((word, *things))
        return "ok"

    def _look(self, word, things):
        weave = self._calls.weave()
        if word == "stands":
            return self._stands(weave, things[0])
        if word == "role":
            return self._role(weave, things[0], things[1])
        if word == "open":
            return _row(weave.open_links()) or "none"
        if word == "waits":
            return _row([f"{link}.{hall}" for link, hall in weave.waiting()]) or "none"
        if word == "ring":
            return _row(ring(self._net, weave.open_links()) or []) or "none"
        paper = due(self._net, cut=weave.cuts(), away=weave.away())
        standings = {hall: (root, far) for hall, (root, far, _) in paper.items()}
        return "yes" if weave.standings() == standings else "no"

    def _stands(self, weave, hall):
        # The net's look is called for its refusal alone.
        self._net.doors(hall)
        standings = weave.standings()
        return _row(standings[hall]) if hall in standings else "stopped"

    def _role(self, weave, link, hall):
        self._net.beyond(link, hall)
        roles = weave.roles()
        if (link, hall) not in roles:
            raise Stopped(hall)
        return roles[(link, hall)]

    def _settle(self):
        """Take all letters and then all flushes; how many letters."""
        # A twin goes along, as each look at the own weave would be one more twin.
        weave = self._calls.weave()
        many = 0
        while not is_settled(weave):
            link, hall = weave.waiting()[0]
            weave.take(link, hall)
            self._calls.do(("take", link, hall))
            many += 1
        while self._calls.waiting():
            link, hall = self._calls.waiting()[0]
            self._calls.do(("flush", link, hall))
        return many


def _row(things):
    return " ".join([str(thing) for thing in things])


def _is_of(words, form):
    """Whether words are of a form."""
    if len(words) != len(form) or words[0] != form[0]:
        return False
    return all([kind != "n" or is_figures(word, MOST_FIGURES) for word, kind in zip(words, form)])

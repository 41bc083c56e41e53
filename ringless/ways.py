"""All ways: what can come of a small net, gone through state by state."""

from ringless.errors import NoRule, RingError, TooLong
from ringless.nets import Net
from ringless.rings import ring
from ringless.settling import is_settled

# Of each wrong rule the halls and links of a net, and a way to a ring.
EXAMPLES = {
    "hasty": ((0, 1), ((0, 1, 1), (0, 1, 1)), ()),
    "worse": (
        (0, 1, 2),
        ((0, 1, 1), (1, 2, 1), (1, 2, 1)),
        (
            ("take", 0, 1),
            ("take", 1, 1),
            ("take", 1, 2),
            ("take", 1, 1),
            ("take", 1, 1),
            ("take", 1, 2),
            ("take", 2, 1),
            ("take", 2, 1),
            ("take", 2, 1),
            ("take", 2, 2),
            ("take", 2, 2),
            ("take", 2, 1),
            ("cut", 0),
            ("take", 2, 2),
            ("take", 2, 1),
            ("take", 2, 2),
            ("take", 2, 2),
        ),
    ),
    "turned": (
        (0, 1, 2),
        ((0, 1, 1), (0, 2, 2), (1, 2, 2)),
        (
            ("take", 0, 0),
            ("take", 1, 0),
            ("take", 2, 1),
            ("take", 2, 2),
            ("take", 1, 0),
            ("take", 1, 2),
            ("take", 1, 0),
            ("take", 1, 0),
            ("take", 2, 1),
            ("take", 2, 1),
            ("take", 2, 1),
            ("take", 0, 0),
            ("take", 0, 1),
            ("take", 0, 0),
            ("take", 0, 0),
            ("take", 2, 2),
            ("take", 2, 2),
        ),
    ),
    "free": (
        (0, 1, 2),
        ((0, 1, 1), (1, 2, 1), (1, 2, 1)),
        (
            ("take", 1, 1),
            ("take", 0, 1),
            ("take", 2, 1),
            ("take", 2, 2),
            ("take", 1, 1),
            ("take", 2, 1),
            ("take", 2, 1),
            ("take", 2, 2),
            ("take", 1, 1),
            ("take", 1, 2),
            ("take", 1, 1),
            ("take", 1, 2),
        ),
    ),
    "kept": (
        (0, 1),
        ((0, 1, 1), (0, 1, 1)),
        (
            ("take", 0, 0),
            ("take", 1, 0),
            ("take", 1, 1),
            ("take", 0, 0),
            ("take", 0, 1),
            ("take", 0, 0),
            ("take", 1, 0),
            ("take", 1, 0),
        ),
    ),
}


class State:
    """A weave that can come, how many of the list's deeds are done, and a shortest way there."""

    def __init__(self, woven, done, way):
        self.woven = woven
        self.done = done
        self.way = way


def mark(weave):
    """A tuple by which all goes on: equal marks of one net and rule go on alike."""
    doors = [door for door, role in weave.roles().items() if role != "cut"]
    rows = [(door, _row_mark(weave, door, row)) for door, row in weave.letters().items()]
    return (
        tuple(weave.cuts()),
        tuple(weave.away()),
        tuple([_door_mark(weave, door) for door in doors]),
        tuple(rows),
    )


def ways(weave, *, deeds=(), most=1000):
    """All states to which letters taken, and deeds in their order, each at any time, lead from a weave."""
    seen = {}
    ends = {}
    to_ring = None
    layer = _unseen(State(weave, 0, []), seen, most)
    while layer:
        following = []
        for state in layer:
            if to_ring is None and ring(state.woven.net(), state.woven.open_links()) is not None:
                to_ring = state.way
            if is_settled(state.woven) and state.done == len(deeds):
                ends[_end(state.woven)] = True
            for after in _steps(state, deeds):
                following.extend(_unseen(after, seen, most))
        layer = following
    return {"states": len(seen), "ring": to_ring, "ends": len(ends)}


def example(rule):
    """A net and a way that leads, by a wrong rule, to a ring of open links."""
    if not isinstance(rule, str) or rule not in EXAMPLES:
        raise NoRule("an example is of a wrong rule")
    halls, links, way = EXAMPLES[rule]
    return (Net(list(halls), list(links)), list(way))


def _door_mark(weave, door):
    link, hall = door
    inside = weave.inside(hall)
    heard = inside.heard(link)
    if heard is not None:
        heard = (heard, inside.has_agreed(link), _counts_beyond(weave, door, inside.number_heard(link)))
    counts = inside.would_count(link, inside.number_agreed(link))
    return (door, inside.role(link), inside.is_open(link), counts, heard)


def _row_mark(weave, door, row):
    return tuple([_letter_mark(weave, door, letter) for letter in row])


def _letter_mark(weave, door, letter):
    """What is told of a letter that comes to a door: its number tells only whether an agree would count."""
    word, number, *standing = letter
    if word == "say":
        return (word, tuple(standing), _counts_beyond(weave, door, number))
    link, hall = door
    return (word, weave.inside(hall).would_count(link, number))


def _counts_beyond(weave, door, number):
    """Whether an agree to a number would count at the other end of a door's link."""
    link, hall = door
    return weave.inside(weave.net().beyond(link, hall)).would_count(link, number)


def _unseen(state, seen, most):
    """The state in a list and noted as seen; an empty list where it was seen ahead."""
    key = (mark(state.woven), state.done)
    if key in seen:
        return []
    seen[key] = True
    if len(seen) > most:
        raise TooLong("more states than are allowed")
    return [state]


def _steps(state, deeds):
    """The states that are one step further, letters ahead of the next deed of the list."""
    steps = []
    for link, hall in state.woven.waiting():
        steps.append(_led(state, ("take", link, hall), 0))
    if state.done < len(deeds):
        try:
            steps.append(_led(state, deeds[state.done], 1))
        except RingError:
            # It is left, and with it those behind it.
            return steps
    return steps


def _led(state, deed, done):
    weave = state.woven.twin()
    weave.lead(deed)
    return State(weave, state.done + done, state.way + [deed])


def _end(weave):
    return (tuple(weave.standings().items()), tuple(weave.open_links()))

"""Due trees: where each hall of a net should stand, and papers that can be proved hall by hall."""

from ringless.errors import NoHall, NoLink
from ringless.nets import is_number

# Less than every hall and every link.
NONE_BEYOND = -1


def due(net, *, cut=(), away=()):
    """The due paper: a dict from the halls that aren't away, rising, to triples (root, far, root link)."""
    running = _running(net, cut, away)
    paper = {hall: (hall, 0, None) for hall in running}
    # Each round makes known the ways of one link more, and no least way comes to a hall twice.
    for _ in running:
        paper = {hall: _right(net, paper, hall, running[hall]) for hall in running}
    return paper


def wrong_at(net, paper, *, cut=(), away=()):
    """The rising list of the halls at which a paper isn't right; all where it is no paper."""
    running = _running(net, cut, away)
    if not _is_paper(net, paper, running):
        return list(running)
    return [hall for hall in running if paper[hall] != _right(net, paper, hall, running[hall])]


def least(hall, rows, most):
    """The least triple (root, far, link) of a hall's own one and of rows (root, far, hall beyond, link)."""
    near = [row for row in rows if row[1] <= most]
    root, far, _, link = min([(hall, 0, NONE_BEYOND, NONE_BEYOND)] + near)
    return (root, far, None if link == NONE_BEYOND else link)


def _right(net, paper, hall, links):
    rows = []
    for link in links:
        beyond = net.beyond(link, hall)
        root, far, _ = paper[beyond]
        rows.append((root, far + net.cost(link), beyond, link))
    return least(hall, rows, net.most())


def _running(net, cut, away):
    """A dict from the halls that aren't away, rising, to the rising lists of their links that run."""
    _check(net, cut, away)
    return {hall: _running_at(net, hall, cut, away) for hall in net.halls() if hall not in away}


def _running_at(net, hall, cut, away):
    return [link for link in net.doors(hall) if link not in cut and net.beyond(link, hall) not in away]


def _check(net, cut, away):
    # The net's looks are called for their refusals alone.
    if not isinstance(cut, (list, tuple)):
        raise NoLink(cut)
    for link in cut:
        net.cost(link)
    if not isinstance(away, (list, tuple)):
        raise NoHall(away)
    for hall in away:
        net.doors(hall)


def _is_paper(net, thing, halls):
    # Keys are asked whether they are numbers ahead of all else: True is found as 1, and texts aren't sorted with it.
    return (
        isinstance(thing, dict)
        and all([is_number(key) for key in thing])
        and sorted(thing) == list(halls)
        and all([_is_triple(thing[hall], net.doors(hall)) for hall in halls])
    )


def _is_triple(thing, doors):
    if not isinstance(thing, tuple) or len(thing) != 3:
        return False
    root, far, link = thing
    return is_number(root) and is_number(far) and (link is None or (is_number(link) and link in doors))

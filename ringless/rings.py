"""Rings of links, and papers that there is none."""

from itertools import combinations

from ringless.nets import is_number


def ring(net, links):
    """The shortest ring of some of the links, a rising list, of several the least; None where there is none."""
    rising = sorted(links)
    for many in range(2, len(rising) + 1):
        rings = [list(some) for some in combinations(rising, many) if _closes(net, some)]
        if rings:
            return min(rings)
    return None


def peeling(net, links):
    """A list of all links, each with a hall where it is the only one left; None where there is a ring."""
    left = sorted(links)
    rows = []
    while left:
        loose = [(hall, link) for link in left for hall in net.ends(link) if _at(net, left, hall) == [link]]
        if not loose:
            return None
        rows.append(min(loose))
        left.remove(rows[-1][1])
    return rows


def peels(net, links, thing):
    """Whether a thing is such a list of the links."""
    if not isinstance(thing, list) or not all([_is_row(row, 2) and None not in row for row in thing]):
        return False
    order = [link for _, link in thing]
    if sorted(order) != sorted(links):
        return False
    return all([_at(net, order[place:], hall) == [link] for place, (hall, link) in enumerate(thing)])


def falling(weave):
    """For each open link (link, child, parent): a root door of the child's meets one that leads; else two Nones."""
    net = weave.net()
    roles = weave.roles()
    return [_fall(link, net.ends(link), roles) for link in weave.open_links()]


def falls(weave, rows):
    """Whether rows are just those of falling, and standings fall by them so that no ring is open."""
    if not isinstance(rows, list) or not all([_is_row(row, 3) for row in rows]):
        return False
    return rows == falling(weave) and all([_holds(weave, row) for row in rows])


def _closes(net, links):
    """Whether each hall of the links is at two of them."""
    # Two rings apart do so, too, but a shorter one is found ahead of them.
    return all([len(_at(net, links, hall)) == 2 for link in links for hall in net.ends(link)])


def _at(net, links, hall):
    return [link for link in links if hall in net.ends(link)]


def _is_row(thing, many):
    if not isinstance(thing, tuple) or len(thing) != many:
        return False
    return all([part is None or is_number(part) for part in thing])


def _fall(link, ends, roles):
    one, other = ends
    for child, parent in ((one, other), (other, one)):
        if roles[(link, child)] == "root" and roles[(link, parent)] == "leads":
            return (link, child, parent)
    return (link, None, None)


def _holds(weave, row):
    link, child, parent = row
    if child is None:
        roles = weave.roles()
        return all([roles[(link, hall)] == "root" for hall in weave.net().ends(link)])
    standings = weave.standings()
    return standings[child] > standings[parent]

"""Nets: halls, and the links that join them."""

from ringless.errors import BadNet, NoHall, NoLink

MOST_HALLS = 8
MOST_LINKS = 12
LAST_HALL = 999
MOST_COST = 30


def is_number(thing):
    """Whether a thing is a whole number and no truth."""
    return isinstance(thing, int) and not isinstance(thing, bool)


def _are_halls(things):
    return (
        isinstance(things, list)
        and 1 <= len(things) <= MOST_HALLS
        and all([is_number(thing) and 0 <= thing <= LAST_HALL for thing in things])
        and len(set(things)) == len(things)
    )


def _is_link(thing, halls):
    if not isinstance(thing, tuple) or len(thing) != 3:
        return False
    if not all([is_number(part) for part in thing]):
        return False
    one, other, cost = thing
    return one in halls and other in halls and one != other and 1 <= cost <= MOST_COST


def _are_links(things, halls):
    return (
        isinstance(things, list)
        and len(things) <= MOST_LINKS
        and all([_is_link(thing, halls) for thing in things])
    )


class Net:
    """Halls and links; a link's number is its place in the list of links."""

    def __init__(self, halls, links):
        if not _are_halls(halls):
            raise BadNet("halls are a list of 1 to 8 unlike numbers from 0 to 999")
        if not _are_links(links, halls):
            raise BadNet("links are a list of at most 12 tuples (one, other, cost), cost from 1 to 30")
        # Nets are the same in whatever order the halls came, but a net's text keeps that order.
        self._handed = list(halls)
        self._rising = sorted(halls)
        self._links = list(links)

    def __eq__(self, other):
        return isinstance(other, Net) and self._rising == other._rising and self._links == other._links

    def halls(self):
        """All halls, rising."""
        return list(self._rising)

    def handed(self):
        """All halls, in the order in which they were handed in."""
        return list(self._handed)

    def links(self):
        """All links (one, other, cost), in order."""
        return list(self._links)

    def most(self):
        """The sum of all costs: no way is longer."""
        return sum([link[2] for link in self._links])

    def doors(self, hall):
        """The rising list of the numbers of the hall's links."""
        if not is_number(hall) or hall not in self._rising:
            raise NoHall(hall)
        return [link for link, (one, other, _) in enumerate(self._links) if hall in (one, other)]

    def beyond(self, link, hall):
        """The hall at the other end of a hall's link."""
        one, other, _ = self._link(link)
        if not is_number(hall) or hall not in (one, other):
            raise NoHall(hall)
        return other if hall == one else one

    def ends(self, link):
        """The two halls that a link joins, the lesser one first."""
        one, other, _ = self._link(link)
        return sorted([one, other])

    def cost(self, link):
        """The cost of a link."""
        return self._link(link)[2]

    def _link(self, link):
        if not is_number(link) or not 0 <= link < len(self._links):
            raise NoLink(link)
        return self._links[link]

"""Calls: what is called out in a hall, heard where open links lead, and the tables that it goes by."""

from ringless.errors import BadHouse, NoDeed, NoHouse, Stopped
from ringless.posts import Post
from ringless.weaves import is_deed

MOST_LETTERS = 6

# The word of its deed, and all that a flush tells.
FLUSH = "flush"


def is_house(thing):
    """Whether a thing is a name for a house."""
    if not isinstance(thing, str) or len(thing) > MOST_LETTERS:
        return False
    # isalpha and islower alone would take letters of other scripts.
    return thing.isascii() and thing.isalpha() and thing.islower()


def is_flush(thing):
    """Whether a thing is a deed by which a flush is taken."""
    return isinstance(thing, tuple) and len(thing) == 3 and thing[0] == FLUSH


class Calls:
    """Houses that live in the halls of a weave, and what they call."""

    def __init__(self, weave):
        self._weave = weave.twin()
        self._net = weave.net()
        self._homes = {}
        # Of all halls: one that is stopped has an empty one.
        self._tables = {hall: {} for hall in self._net.halls()}
        self._flushes = Post(self._net)

    def live(self, house, hall):
        """Let a house live in a hall."""
        if not is_house(house):
            raise BadHouse("a house is a text of 1 to 6 small letters")
        self._check_stands(hall)
        self._homes[house] = hall

    def leave(self, house):
        """Let a house live nowhere any more."""
        self.lives(house)
        del self._homes[house]

    def lives(self, house):
        """The hall in which a house lives."""
        if not is_house(house) or house not in self._homes:
            raise NoHouse(house)
        return self._homes[house]

    def call(self, house, to=None):
        """Carry a house's call, to all or to one house; the rising list of the halls in which it is heard."""
        home = self.lives(house)
        if to is not None and not is_house(to):
            raise BadHouse("a call is to a text of 1 to 6 small letters")
        self._tables[home].pop(house, None)
        links = self._weave.open_links()
        heard = [home]
        coming = [home]
        while coming:
            hall = coming.pop(0)
            for link in self._ways_on(hall, to, links, heard):
                beyond = self._net.beyond(link, hall)
                self._tables[beyond][house] = link
                heard.append(beyond)
                coming.append(beyond)
        return sorted(heard)

    def do(self, deed):
        """Do a deed of the weave, or take a flush."""
        if is_flush(deed):
            self._take_flush(deed[1], deed[2])
        elif is_deed(deed):
            self._lead(deed)
        else:
            raise NoDeed(0)

    def waiting(self):
        """The rising list of the doors (link, hall) to which flushes come."""
        return self._flushes.waiting()

    def table(self, hall):
        """A dict from houses, rising, to the links by which a hall knows them."""
        self._check_stands(hall)
        table = self._tables[hall]
        return {house: table[house] for house in sorted(table)}

    def weave(self):
        """A twin of the weave."""
        return self._weave.twin()

    def _check_stands(self, hall):
        # The net's look is called for its refusal alone.
        self._net.doors(hall)
        if hall in self._weave.away():
            raise Stopped(hall)

    def _ways_on(self, hall, to, links, heard):
        """The open links by which a call goes on from a hall."""
        if self._homes.get(to) == hall:
            return []
        at_hall = [link for link in links if link in self._net.doors(hall)]
        # Open links close no ring, so only the link by which it came leads back to where it was heard.
        onward = [link for link in at_hall if self._net.beyond(link, hall) not in heard]
        table = self._tables[hall]
        if to in table:
            return [link for link in onward if link == table[to]]
        return onward

    def _lead(self, deed):
        ahead = self._weave.open_doors()
        self._weave.lead(deed)
        self._lose()
        behind = self._weave.open_doors()
        running = self._running()
        for hall in self._weave.standings():
            if _links_at(ahead, hall) != _links_at(behind, hall):
                self._flush(hall, _links_at(running, hall))

    def _lose(self):
        """Lose what is on links that don't run, and what stopped halls knew."""
        running = [link for link, _ in self._running()]
        for link in range(len(self._net.links())):
            if link not in running:
                self._flushes.lose(link)
        away = self._weave.away()
        for hall in away:
            self._tables[hall] = {}
        self._homes = {house: hall for house, hall in self._homes.items() if hall not in away}

    def _running(self):
        """The rising list of the doors that run."""
        return [door for door, role in self._weave.roles().items() if role != "cut"]

    def _take_flush(self, link, hall):
        self._flushes.take(link, hall)
        opened = _links_at(self._weave.open_doors(), hall)
        if link in opened:
            self._flush(hall, [other for other in opened if other != link])

    def _flush(self, hall, links):
        """Empty a hall's table, and send a flush by each of some of its links."""
        self._tables[hall] = {}
        for link in links:
            self._flushes.send(link, hall, FLUSH)


def _links_at(doors, hall):
    return [link for link, other in doors if other == hall]

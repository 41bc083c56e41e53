"""Weaves: the halls of a net and their post, under deeds."""

from ringless.errors import Cut, NoDeed, RingError, Runs, Stands, Stopped
from ringless.halls import Hall
from ringless.posts import Post
from ringless.rules import RIGHT

# How many things the word of a deed takes.
THINGS = {"take": 2, "cut": 1, "mend": 1, "stop": 1, "start": 1}


def is_deed(thing):
    """Whether a thing is a tuple of a deed's word and of as many things as it takes."""
    if not isinstance(thing, tuple) or len(thing) == 0:
        return False
    word = thing[0]
    return isinstance(word, str) and word in THINGS and len(thing) == 1 + THINGS[word]


def check_deeds(deeds):
    """Refuse what is no list of deeds."""
    if not isinstance(deeds, list):
        raise NoDeed(0)
    for at, deed in enumerate(deeds):
        if not is_deed(deed):
            raise NoDeed(at)


class Weave:
    """The halls of a net, and the letters on their way between them."""

    def __init__(self, net, *, rule=RIGHT):
        self._net = net
        self._rule = rule
        self._cut_links = []
        # Of all halls, rising; None is what a stopped one knows.
        self._halls = {hall: self._new_hall(hall, []) for hall in net.halls()}
        self._post = Post(net)
        self._posted = []
        self._log = []
        self._notes = []
        for hall, inside in self._halls.items():
            self._send(hall, inside.posted())

    def take(self, link, hall):
        """Let a hall take the first letter that comes to it by a link."""
        letter = self._post.take(link, hall)
        self._posted = []
        self._send(hall, self._halls[hall].take(link, letter))
        self._log.append(("take", link, hall))

    def cut(self, link):
        """Cut a link."""
        ends = self._net.ends(link)
        if link in self._cut_links:
            raise Cut(link)
        ran = self._runs(link)
        self._posted = []
        self._cut_links.append(link)
        self._post.lose(link)
        if ran:
            for hall in ends:
                self._send(hall, self._halls[hall].cut(link))
        self._log.append(("cut", link))

    def mend(self, link):
        """Mend a cut link."""
        ends = self._net.ends(link)
        if link not in self._cut_links:
            raise Runs(link)
        self._posted = []
        self._cut_links.remove(link)
        if self._runs(link):
            for hall in ends:
                self._send(hall, self._halls[hall].mend(link))
        self._log.append(("mend", link))

    def stop(self, hall):
        """Stop a hall."""
        links = self._net.doors(hall)
        if self._halls[hall] is None:
            raise Stopped(hall)
        ran = [link for link in links if self._runs(link)]
        self._posted = []
        self._halls[hall] = None
        for link in links:
            self._post.lose(link)
        for link in ran:
            beyond = self._net.beyond(link, hall)
            self._send(beyond, self._halls[beyond].cut(link))
        self._log.append(("stop", hall))

    def start(self, hall):
        """Start a stopped hall."""
        links = self._net.doors(hall)
        if self._halls[hall] is not None:
            raise Stands(hall)
        # The hall itself is still stopped here, so it is asked for the one beyond alone.
        runs = [link for link in links if self._may_run(link, self._net.beyond(link, hall))]
        self._posted = []
        self._halls[hall] = self._new_hall(hall, [link for link in links if link not in runs])
        self._send(hall, self._halls[hall].posted())
        for link in runs:
            beyond = self._net.beyond(link, hall)
            self._send(beyond, self._halls[beyond].mend(link))
        self._log.append(("start", hall))

    def do(self, deeds):
        """Do all deeds of a list, or none of them."""
        check_deeds(deeds)
        ahead = self.twin()
        self._notes.append(("begin", len(deeds)))
        try:
            for deed in deeds:
                self.lead(deed)
        except RingError:
            self._be_like(ahead)
            self._notes.append(("end", False))
            raise
        self._notes.append(("end", True))

    def lead(self, deed):
        """Do a deed that is told as a tuple."""
        word, *things = deed
        if word == "take":
            self.take(things[0], things[1])
        elif word == "cut":
            self.cut(things[0])
        elif word == "mend":
            self.mend(things[0])
        elif word == "stop":
            self.stop(things[0])
        else:
            self.start(things[0])

    def posted(self):
        """What the last deed posted and what wasn't lost: the list of (link, from, told letter), in order."""
        return list(self._posted)

    def inside(self, hall):
        """The Hall of a hall that stands, to be looked at alone."""
        return self._halls[hall]

    def notes(self):
        """The notes of both ends of each do: ("begin", how many deeds), ("end", whether they were done)."""
        return list(self._notes)

    def waiting(self):
        """The rising list of the doors (link, hall) to which letters come."""
        return self._post.waiting()

    def letters(self):
        """A dict from these doors to the lists of what the letters tell."""
        return self._post.rows()

    def standings(self):
        """A dict from the halls that stand, rising, to their standings."""
        return {hall: inside.standing() for hall, inside in self._halls.items() if inside is not None}

    def roles(self):
        """A dict from the doors of the halls that stand, rising, to their roles."""
        return {(link, hall): self._halls[hall].role(link) for link, hall in self._standing_doors()}

    def open_doors(self):
        """The rising list of the doors that are open."""
        return [(link, hall) for link, hall in self._standing_doors() if self._halls[hall].is_open(link)]

    def open_links(self):
        """The rising list of the links of which both doors are open."""
        doors = self.open_doors()
        return [link for link in self._all_links() if all([(link, hall) in doors for hall in self._net.ends(link)])]

    def cuts(self):
        """The rising list of the links that are cut."""
        return sorted(self._cut_links)

    def away(self):
        """The rising list of the halls that are stopped."""
        return [hall for hall, inside in self._halls.items() if inside is None]

    def log(self):
        """All deeds done."""
        return list(self._log)

    def net(self):
        """The net."""
        return self._net

    def twin(self):
        """A weave of its own in which all is the same."""
        other = Weave(self._net, rule=self._rule)
        other._be_like(self)
        other._notes = list(self._notes)
        return other

    def _be_like(self, other):
        """Have all as another weave of the same net and rule has it, but for the notes."""
        self._cut_links = list(other._cut_links)
        self._halls = {hall: None if inside is None else inside.twin() for hall, inside in other._halls.items()}
        self._post = other._post.twin()
        self._posted = list(other._posted)
        self._log = list(other._log)

    def _new_hall(self, hall, cut):
        doors = {link: (self._net.beyond(link, hall), self._net.cost(link)) for link in self._net.doors(hall)}
        return Hall(hall, doors, cut=cut, most=self._net.most(), rule=self._rule)

    def _send(self, hall, posts):
        """Post what a hall posts; what goes by a link that doesn't run is lost."""
        for link, letter in posts:
            if self._runs(link):
                self._post.send(link, hall, letter)
                self._posted.append((link, hall, letter.told()))

    def _runs(self, link):
        return all([self._may_run(link, hall) for hall in self._net.ends(link)])

    def _may_run(self, link, hall):
        """Whether a link runs as far as one of its halls is asked."""
        return link not in self._cut_links and self._halls[hall] is not None

    def _all_links(self):
        return list(range(len(self._net.links())))

    def _standing_doors(self):
        """The rising list of the doors of the halls that stand."""
        doors = [(link, hall) for link in self._all_links() for hall in self._net.ends(link)]
        return [(link, hall) for link, hall in doors if self._halls[hall] is not None]

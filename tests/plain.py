"""A hall and a weave told once more, as plainly as the document has it, to hold the program against.

The hall here keeps all that ever came to it and looks everything up anew; nothing of it is kept up from step to step.
"""

from ringless.errors import RingError
from ringless.nets import Net

TWO = Net([0, 1], [(0, 1, 1), (0, 1, 1)])
THREE = Net([0, 1, 2], [(0, 1, 1), (1, 2, 1), (1, 2, 1)])
ROUND = Net([0, 1, 2], [(0, 1, 1), (0, 2, 2), (1, 2, 2)])


def takes(doors):
    """The takes at doors that are told as figures, link and hall."""
    return [("take", int(link), int(hall)) for link, hall in doors.split()]


# Of each wrong rule a net and a way to a ring of open links.
RING_WAYS = {
    "hasty": (TWO, []),
    "worse": (THREE, takes("01 11 12 11 11 12 21 21 21 22 22 21") + [("cut", 0)] + takes("22 21 22 22")),
    "turned": (ROUND, takes("00 10 21 22 10 12 10 10 21 21 21 00 01 00 00 22 22")),
    "free": (THREE, takes("11 01 21 22 11 21 21 22 11 12 11 12")),
    "kept": (TWO, takes("00 10 11 00 01 00 10 10")),
}


class PlainHall:
    def __init__(self, hall, doors, cut, most, rule):
        self.hall = hall
        self.doors = doors
        self.most = most
        self.rule = rule
        # What happened, step by step, and what was posted: (link, letter told) in each step.
        self.steps = [("start", [link for link in doors if link not in cut])]
        self.posts = []
        self.work()

    def ran_from(self, link, at):
        """The step in which a door that runs behind step `at` began to run, or None."""
        began = 0 if link in self.steps[0][1] else None
        for place, step in enumerate(self.steps[1 : at + 1], 1):
            if step == ("cut", link):
                began = None
            if step == ("mend", link):
                began = place
        return began

    def taken(self, link, at, word):
        """The letters with that word that came to a door since it runs."""
        began = self.ran_from(link, at)
        rows = [] if began is None else self.steps[began : at + 1]
        return [step[2] for step in rows if step[0] == "take" and step[1] == link and step[2][0] == word]

    def best(self, at):
        """(root, far, hall beyond, link) behind step `at`."""
        found = [(self.hall, 0, -1, None)]
        for link, (beyond, cost) in self.doors.items():
            for _, _, root, far in self.taken(link, at, "say")[-1:]:
                if far + cost <= self.most:
                    found.append((root, far + cost, beyond, link))
        return min(found)

    def role(self, link, at):
        if at < 0 or self.ran_from(link, at) is None:
            return "cut"
        root, far, _, root_link = self.best(at)
        if link == root_link:
            return "root"
        says = self.taken(link, at, "say")
        if says and (says[-1][2], says[-1][3], self.doors[link][0]) < (root, far, self.hall):
            return "beside"
        return "leads"

    def is_anew(self, link, at):
        began = self.ran_from(link, at)
        return self.role(link, at) == "leads" and (began == at or self.role(link, at - 1) != "leads")

    def says_from(self, link, at):
        """The steps since the door runs in which something was said there."""
        began = self.ran_from(link, at)
        return [
            step
            for step in range(began, at + 1)
            if self.is_anew(link, step) or (step > began and self.best(step)[:2] != self.best(step - 1)[:2])
        ]

    def counts_from(self, link, at):
        number = 1
        for said, step in enumerate(self.says_from(link, at), 1):
            worse = step > 0 and self.best(step)[:2] > self.best(step - 1)[:2]
            if self.rule == "worse":
                worse = False
            if worse or (self.is_anew(link, step) and self.rule != "turned"):
                number = said
        return number

    def agreed_to(self, link, at):
        """The number to which the hall has agreed ahead of step `at`'s own agree."""
        began = self.ran_from(link, at)
        number = None
        for step in range(began, at):
            if self.role(link, step) == "leads" and self.rule != "free":
                number = None
            for posted, letter in self.posts[step]:
                if posted == link and letter[0] == "agree":
                    number = letter[1]
        return number

    def work(self):
        at = len(self.steps) - 1
        posts = []
        for link in sorted(self.doors):
            if self.ran_from(link, at) is None:
                continue
            says = self.says_from(link, at)
            if at in says:
                posts.append((link, ("say", len(says), *self.best(at)[:2])))
            heard = self.taken(link, at, "say")
            may = self.role(link, at) != "leads" or self.rule == "free"
            if may and heard and heard[-1][1] != self.agreed_to(link, at):
                posts.append((link, ("agree", heard[-1][1])))
        self.posts.append(posts)
        return posts

    def step(self, *step):
        self.steps.append(step)
        return self.work()

    def is_open(self, link):
        at = len(self.steps) - 1
        part = self.role(link, at)
        if part == "leads" and self.rule != "hasty":
            agrees = [letter[1] for letter in self.taken(link, at, "agree")]
            return max(agrees, default=0) >= self.counts_from(link, at)
        if part == "beside" and self.rule == "kept":
            parts = [self.role(link, step) for step in range(self.ran_from(link, at), at + 1)]
            behind = parts[::-1]
            return "root" in behind[: behind.index("leads")]
        return part in ("root", "leads")

    def looks(self):
        """All that a hall lets be seen."""
        at = len(self.steps) - 1
        best = self.best(at)
        doors = {}
        for link in self.doors:
            heard = [letter[2:] for letter in self.taken(link, at, "say")[-1:]]
            doors[link] = (self.role(link, at), self.is_open(link), heard[0] if heard else None)
        return (best[:2], best[3], doors)


def hall_looks(hall, links):
    """The same of a hall of the program."""
    doors = {link: (hall.role(link), hall.is_open(link), hall.heard(link)) for link in links}
    return (hall.standing(), hall.root_link(), doors)


class PlainWeave:
    def __init__(self, net, rule):
        self.net = net
        self.rule = rule
        self.cut = []
        self.rows = {(link, hall): [] for link, ends in enumerate(net.links()) for hall in sorted(ends[:2])}
        self.halls = {hall: self.hall(hall, []) for hall in net.halls()}
        # What the last deed posted and what wasn't lost: (link, from, letter told).
        self.posted = []
        for hall in net.halls():
            self.post(hall, self.halls[hall].posts[0])

    def hall(self, hall, cut):
        doors = {link: (self.net.beyond(link, hall), self.net.cost(link)) for link in self.net.doors(hall)}
        return PlainHall(hall, doors, cut, self.net.most(), self.rule)

    def runs(self, link):
        one, other, _ = self.net.links()[link]
        return link not in self.cut and one in self.halls and other in self.halls

    def post(self, hall, posts):
        for link, letter in posts:
            if self.runs(link):
                self.rows[(link, self.net.beyond(link, hall))].append(letter)
                self.posted.append((link, hall, letter))

    def lose(self):
        for door, row in self.rows.items():
            if not self.runs(door[0]):
                row.clear()

    def do(self, word, *things):
        """Do a deed that isn't refused."""
        self.posted = []
        if word == "take":
            letter = self.rows[things].pop(0)
            self.post(things[1], self.halls[things[1]].step("take", things[0], letter))
        elif word in ("cut", "mend"):
            self.cut_or_mend(word, things[0])
        elif word == "stop":
            self.stop(things[0])
        else:
            self.start(things[0])

    def cut_or_mend(self, word, link):
        ran = self.runs(link)
        self.cut = [other for other in self.cut if other != link] + [link] * (word == "cut")
        self.lose()
        if ran or self.runs(link):
            for hall in sorted(self.net.links()[link][:2]):
                self.post(hall, self.halls[hall].step(word, link))

    def stop(self, hall):
        ran = [link for link in self.net.doors(hall) if self.runs(link)]
        del self.halls[hall]
        self.lose()
        for link in ran:
            beyond = self.net.beyond(link, hall)
            self.post(beyond, self.halls[beyond].step("cut", link))

    def start(self, hall):
        doors = self.net.doors(hall)
        cut = [link for link in doors if link in self.cut or self.net.beyond(link, hall) not in self.halls]
        self.halls[hall] = self.hall(hall, cut)
        self.post(hall, self.halls[hall].posts[0])
        for link in doors:
            if link not in cut:
                beyond = self.net.beyond(link, hall)
                self.post(beyond, self.halls[beyond].step("mend", link))

    def counts(self, link, hall, number):
        """Whether an agree to a number would count at a door."""
        inside = self.halls[hall]
        return number >= inside.counts_from(link, len(inside.steps) - 1)

    def door_mark(self, link, hall):
        """What the document has a mark tell of a door that runs."""
        inside = self.halls[hall]
        at = len(inside.steps) - 1
        agrees = [letter[1] for letter in inside.taken(link, at, "agree")]
        sign = [inside.role(link, at), inside.is_open(link), self.counts(link, hall, max(agrees, default=0))]
        for _, number, root, far in inside.taken(link, at, "say")[-1:]:
            # Behind the last step, that is ahead of the next one.
            agreed = inside.agreed_to(link, at + 1) == number
            sign += [root, far, agreed, self.counts(link, self.net.beyond(link, hall), number)]
        return sign

    def mark(self):
        """What the document has the mark of a weave tell, as a text."""
        told = [sorted(self.cut), [hall for hall in self.net.halls() if hall not in self.halls]]
        for (link, hall), row in sorted(self.rows.items()):
            if self.runs(link):
                told.append([link, hall, self.door_mark(link, hall)])
            for word, number, *standing in row:
                at = self.net.beyond(link, hall) if word == "say" else hall
                told.append([link, hall, word, standing, self.counts(link, at, number)])
        return str(told)

    def looks(self):
        """All that a weave lets be seen of halls and letters."""
        looks = {hall: self.halls[hall].looks() for hall in sorted(self.halls)}
        doors = [(link, hall) for link, hall in sorted(self.rows) if hall in looks]
        opened = [(link, hall) for link, hall in doors if looks[hall][2][link][1]]
        return {
            "letters": {door: row for door, row in sorted(self.rows.items()) if row},
            "standings": {hall: look[0] for hall, look in looks.items()},
            "roles": {(link, hall): looks[hall][2][link][0] for link, hall in doors},
            "open_doors": opened,
            "open_links": [door[0] for door, next_one in zip(opened, opened[1:]) if door[0] == next_one[0]],
            "cuts": sorted(self.cut),
            "away": [hall for hall in self.net.halls() if hall not in self.halls],
        }


def has_ring(net, links):
    """Whether one of the links joins halls that those ahead of it join already."""
    parts = {hall: {hall} for hall in net.halls()}
    for one, other, _ in [net.links()[link] for link in links]:
        if parts[one] is parts[other]:
            return True
        parts[one] |= parts[other]
        for hall in parts[other]:
            parts[hall] = parts[one]
    return False


def weave_looks(weave):
    """The same of a weave of the program."""
    return {
        "letters": weave.letters(),
        "standings": weave.standings(),
        "roles": weave.roles(),
        "open_doors": weave.open_doors(),
        "open_links": weave.open_links(),
        "cuts": weave.cuts(),
        "away": weave.away(),
    }


def all_looks(weave):
    """All that a weave tells, with its log and its notes."""
    more = {"net": weave.net().links(), "waiting": weave.waiting(), "log": weave.log(), "notes": weave.notes()}
    return {**weave_looks(weave), **more}


def some_net(dice, most_halls=8, most_links=12):
    """A net of one to so many halls with none to so many links."""
    halls = dice.some(range(1000), 1 + dice.roll(most_halls))
    many = dice.roll(most_links + 1) if len(halls) > 1 else 0
    return Net(halls, [(*dice.some(halls, 2), 1 + dice.roll(dice.pick((1, 4, 30)))) for _ in range(many)])


def some_deed(dice, net, waiting, most=12):
    """A deed that may be refused, or None; most of those are takes."""
    roll = dice.roll(most)
    if roll < 2 and net.links():
        return (("cut", "mend")[roll], dice.roll(len(net.links())))
    if roll in (2, 3):
        return (("stop", "start")[roll - 2], dice.pick(net.halls()))
    return ("take", *dice.pick(waiting)) if waiting else None


def led(weave, deeds):
    """Do deeds on a weave, one by one; the weave."""
    for word, *things in deeds:
        getattr(weave, word)(*things)
    return weave


def is_done(weave, deed):
    """Whether a deed is done; None or one that is refused isn't."""
    try:
        led(weave, [deed] if deed else [])
    except RingError:
        return False
    return deed is not None


def settled_by(weave, schedule):
    """Take letters by a schedule as plainly as the document has it; the doors in order."""
    doors, left = [], list(schedule)
    while weave.waiting():
        number = left.pop(0) if left else 0
        doors.append(weave.waiting()[number % len(weave.waiting())])
        weave.take(*doors[-1])
    return doors

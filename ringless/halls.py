"""Halls: each opens and closes its doors by what it hears at them."""

from ringless.dues import least
from ringless.errors import Cut, NoLink, Runs
from ringless.letters import Agree, Say
from ringless.nets import is_number
from ringless.rules import RIGHT, check_rule

# The sum of all costs of a net with as many links as may be, each as dear as may be.
MOST = 360

# No number of a say, as these begin at 1.
NOTHING = 0


class Door:
    """What a hall keeps of one of its doors that runs."""

    def __init__(self, beyond, cost):
        self.other_hall = beyond
        self.link_cost = cost
        self.part = None
        self.was_root = False
        self.heard_number = NOTHING
        self.heard_standing = None
        self.said = NOTHING
        self.counts_from = 1
        # The greatest number that the other end agreed to, and the one to which this end has agreed.
        self.agreed_there = NOTHING
        self.agreed_here = NOTHING

    def copied(self):
        """A door of its own of which the same is kept."""
        other = Door(self.other_hall, self.link_cost)
        other.part = self.part
        other.was_root = self.was_root
        other.heard_number = self.heard_number
        other.heard_standing = self.heard_standing
        other.said = self.said
        other.counts_from = self.counts_from
        other.agreed_there = self.agreed_there
        other.agreed_here = self.agreed_here
        return other


class Hall:
    """A hall with its doors; each step tells the letters that it posts."""

    def __init__(self, hall, doors, *, cut=(), most=MOST, rule=RIGHT):
        check_rule(rule)
        self._hall = hall
        self._ends = {link: doors[link] for link in sorted(doors)}
        self._most = most
        self._rule = rule
        self._doors = {}
        for link, (beyond, cost) in self._ends.items():
            self._doors[link] = None if link in cut else Door(beyond, cost)
        self._standing = (hall, 0)
        self._root_link = None
        self._posted = self._step()

    def take(self, link, letter):
        """Take a letter that comes by a link."""
        door = self._running(link)
        if isinstance(letter, Say):
            door.heard_number = letter.number
            door.heard_standing = (letter.root, letter.far)
        else:
            door.agreed_there = max(door.agreed_there, letter.number)
        return self._step()

    def cut(self, link):
        """Cut a door that runs."""
        self._running(link)
        self._doors[link] = None
        return self._step()

    def mend(self, link):
        """Let a cut door run anew."""
        if self._door(link) is not None:
            raise Runs(link)
        beyond, cost = self._ends[link]
        self._doors[link] = Door(beyond, cost)
        return self._step()

    def posted(self):
        """The pairs (link, letter) that the hall posted when it started."""
        return list(self._posted)

    def standing(self):
        """The pair (root, far) at which the hall stands."""
        return self._standing

    def root_link(self):
        """The link of the root door, None where the hall is a root."""
        return self._root_link

    def role(self, link):
        """What a door is: "root", "leads", "beside" or "cut"."""
        door = self._door(link)
        return "cut" if door is None else door.part

    def is_open(self, link):
        """Whether a door is open."""
        door = self._door(link)
        if door is None:
            return False
        if door.part == "leads":
            return self._rule == "hasty" or door.agreed_there >= door.counts_from
        return door.part == "root" or (self._rule == "kept" and door.was_root)

    def heard(self, link):
        """The pair (root, far) that was heard last at a door, or None."""
        door = self._door(link)
        return None if door is None else door.heard_standing

    def number_heard(self, link):
        """The number of what was heard last at a door that runs, 0 where nothing was."""
        return self._running(link).heard_number

    def has_agreed(self, link):
        """Whether the hall has agreed to what was heard last at a door that runs."""
        door = self._running(link)
        return door.heard_number == door.agreed_here

    def number_agreed(self, link):
        """The greatest number to which the other end of a door that runs has agreed, 0 at first."""
        return self._running(link).agreed_there

    def would_count(self, link, number):
        """Whether an agree to a number would count at a door that runs, also where it doesn't lead."""
        return number >= self._running(link).counts_from

    def twin(self):
        """A hall of its own that keeps the same."""
        other = Hall(self._hall, {}, most=self._most, rule=self._rule)
        other._ends = dict(self._ends)
        other._doors = {link: None if door is None else door.copied() for link, door in self._doors.items()}
        other._standing = self._standing
        other._root_link = self._root_link
        other._posted = list(self._posted)
        return other

    def _door(self, link):
        """What is kept of a door, None of one that is cut."""
        if not is_number(link) or link not in self._doors:
            raise NoLink(link)
        return self._doors[link]

    def _running(self, link):
        door = self._door(link)
        if door is None:
            raise Cut(link)
        return door

    def _step(self):
        """Reckon standing and doors anew; the pairs (link, letter) that this posts."""
        running = [(link, door) for link, door in self._doors.items() if door is not None]
        rows = []
        for link, door in running:
            if door.heard_standing is not None:
                root, far = door.heard_standing
                rows.append((root, far + door.link_cost, door.other_hall, link))
        ahead = self._standing
        root, far, self._root_link = least(self._hall, rows, self._most)
        self._standing = (root, far)
        posts = []
        for link, door in running:
            posts.extend([(link, letter) for letter in self._write(link, door, ahead)])
        return posts

    def _write(self, link, door, ahead):
        """Reckon a door anew; the letters that go out by it. Ahead is the standing ahead of the step."""
        led = door.part == "leads"
        self._turn(link, door)
        anew = door.part == "leads" and not led
        letters = []
        if anew or self._standing != ahead:
            door.said += 1
            letters.append(Say(door.said, self._standing[0], self._standing[1]))
        if (anew and self._rule != "turned") or (self._standing > ahead and self._rule != "worse"):
            door.counts_from = door.said
        if door.part == "leads" and self._rule != "free":
            door.agreed_here = NOTHING
        elif door.heard_number != door.agreed_here:
            door.agreed_here = door.heard_number
            letters.append(Agree(door.agreed_here))
        return letters

    def _turn(self, link, door):
        """Give a door its part."""
        heard = door.heard_standing
        if link == self._root_link:
            door.part = "root"
            door.was_root = True
        elif heard is None or (*self._standing, self._hall) < (*heard, door.other_hall):
            door.part = "leads"
            door.was_root = False
        else:
            door.part = "beside"

"""The post: letters on their way to doors."""

from ringless.errors import NoLetter


class Post:
    """For each door of a net a row of letters on their way to it, first in, first out."""

    def __init__(self, net):
        self._net = net
        # All doors, rising, so what goes over them rises, too.
        self._rows = {(link, hall): [] for link in range(len(net.links())) for hall in net.ends(link)}

    def __len__(self):
        return len([letter for row in self._rows.values() for letter in row])

    def send(self, link, hall, letter):
        """Put a letter of the hall's behind the others that go by the link to the hall beyond."""
        beyond = self._net.beyond(link, hall)
        self._rows[(link, beyond)].append(letter)

    def first(self, link, hall):
        """The letter that comes next to the hall by the link."""
        return self._row(link, hall)[0]

    def take(self, link, hall):
        """Take out the letter that comes next to the hall by the link."""
        row = self._row(link, hall)
        return row.pop(0)

    def lose(self, link):
        """Lose all letters on the link, both ways."""
        for hall in self._net.ends(link):
            self._rows[(link, hall)] = []

    def waiting(self):
        """The rising list of the doors (link, hall) to which letters come."""
        return [door for door, row in self._rows.items() if row]

    def rows(self):
        """A dict from the doors to which letters come, rising, to the lists of what these tell."""
        return {door: [letter.told() for letter in self._rows[door]] for door in self.waiting()}

    def twin(self):
        """A post of its own with the same letters on their way."""
        other = Post(self._net)
        other._rows = {door: list(row) for door, row in self._rows.items()}
        return other

    def _row(self, link, hall):
        # The net's look is called for its refusals alone.
        self._net.beyond(link, hall)
        row = self._rows[(link, hall)]
        if not row:
            raise NoLetter(link, hall)
        return row

"""Settling: letters are taken till none waits."""

from ringless.errors import TooLong


def settled(weave, *, schedule=(), most=4000):
    """Take letters, in an order by the schedule, till none waits; how many were taken."""
    # Tried on a twin, as the weave stays as it was where they are too many.
    doors = _doors(weave.twin(), schedule, most)
    for link, hall in doors:
        weave.take(link, hall)
    return len(doors)


def is_settled(weave):
    """Whether no letter waits."""
    return not weave.waiting()


def _doors(weave, schedule, most):
    """The doors at which letters are taken, in order, till none waits."""
    doors = []
    while not is_settled(weave):
        if len(doors) >= most:
            raise TooLong("more letters than are allowed")
        waiting = weave.waiting()
        number = schedule[len(doors)] if len(doors) < len(schedule) else 0
        link, hall = waiting[number % len(waiting)]
        weave.take(link, hall)
        doors.append((link, hall))
    return doors

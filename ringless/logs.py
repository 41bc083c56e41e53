"""Logs: what deeds on a new weave do, row by row."""

from ringless.errors import BadLog, RingError
from ringless.nets import is_number
from ringless.weaves import Weave, check_deeds, is_deed


def logged(net, deeds):
    """The log of a new weave's deeds: for each (deed, what it posted, the open links behind it)."""
    check_deeds(deeds)
    weave = Weave(net)
    return [_done(weave, deed) for deed in deeds]


def first_wrong(net, log):
    """The first row of a log, from 0, that doesn't tell what is done; None where there is none."""
    if not isinstance(log, list):
        return 0
    weave = Weave(net)
    for at, row in enumerate(log):
        if not _is_right(weave, row):
            return at
    return None


def replayed(net, log):
    """The weave behind a log's deeds."""
    wrong = first_wrong(net, log)
    if wrong is not None:
        raise BadLog(wrong)
    weave = Weave(net)
    for row in log:
        weave.lead(row[0])
    return weave


def _done(weave, deed):
    """Do a deed; its row."""
    weave.lead(deed)
    return (deed, weave.posted(), weave.open_links())


def _is_right(weave, row):
    """Do the deed of a row; whether the row tells what is done."""
    if not isinstance(row, tuple) or len(row) != 3 or not is_deed(row[0]):
        return False
    try:
        done = _done(weave, row[0])
    except RingError:
        return False
    return _is_same(row, done)


def _is_same(thing, right):
    """Whether a thing is equal to what is right, in kind, too: True is no 1."""
    if isinstance(right, str):
        return isinstance(thing, str) and thing == right
    if is_number(right):
        return is_number(thing) and thing == right
    if isinstance(thing, list) != isinstance(right, list) or not isinstance(thing, (list, tuple)):
        return False
    return len(thing) == len(right) and all([_is_same(part, beside) for part, beside in zip(thing, right)])

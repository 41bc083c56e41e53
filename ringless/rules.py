"""The rules by which halls go: the right one, and wrong ones that let a ring come."""

from ringless.errors import NoRule

RIGHT = "right"
RULES = ("right", "hasty", "worse", "turned", "free", "kept")


def check_rule(rule):
    """Refuse what is no rule."""
    if rule not in RULES:
        raise NoRule("a rule is one of RULES")

"""The latest of several rules: its normal form, its order, and its days."""

from daychains.checks import check_calendars, check_offices, check_rules
from daychains.delays import all_offices, delayed
from daychains.integers import check_day
from daychains.order import never_later
from daychains.rules import reduced
from daychains.steps import last_stop


def normal_rules(rules):
    """Return the ascending reduced rules that are needed for the latest day, each of them once."""
    check_rules(rules)
    different = []
    for rule in sorted([reduced(entry) for entry in rules]):
        if not different or different[-1] != rule:
            different.append(rule)
    needed = []
    for rule in different:
        if not _is_below(rule, [other for other in different if other != rule]):
            needed.append(rule)
    return needed


def latest_never_later(rules, others):
    """Return whether the latest of the rules is never later than the latest of the others."""
    check_rules(rules)
    check_rules(others)
    return _uncovered(rules, others) is None


def latest_same(rules, others):
    """Return whether the latest of the rules and that of the others always give the same day."""
    return normal_rules(rules) == normal_rules(others)


def latest_day(calendars, rules, day):
    """Return the latest one of the days to which the rules move the day."""
    check_calendars(calendars)
    check_rules(rules)
    for rule in rules:
        check_offices(calendars, rule)
    check_day(day)
    return max([last_stop(calendars, rule, day) for rule in rules])


def latest_counterexample(rules, others):
    """Return calendars and a day for which the latest of the rules is later than that of the others, or None."""
    check_rules(rules)
    check_rules(others)
    rule = _uncovered(rules, others)
    if rule is None:
        return None
    return delayed(rule, others, all_offices(rules + others))


def _is_below(rule, others):
    """Return whether the rule is never later than some one of the others."""
    return any([never_later(rule, other) for other in others])


def _uncovered(rules, others):
    """Return the first rule that is not always at or before the latest of the others, or None."""
    for rule in rules:
        if not _is_below(rule, others):
            return rule
    return None

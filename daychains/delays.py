"""Delays: calendars by which a rule comes later than all rules that do not spell it."""

from daychains.calendars import Calendar
from daychains.rules import offices_in, reduced


def all_offices(rules):
    """Return the ascending list of the different offices of the rules."""
    return offices_in([letter for rule in rules for letter in rule])


def delayed(rule, others, offices):
    """Return calendars of these offices, and a day, by which the rule comes later than each of the others.

    No indices of one of the others spell the reduced rule. The offices are at least those of all these rules.
    """
    # Each office of the rule is closed, and all others are open, from the day on which the rule comes to this
    # office for as many days as no other rule can pass by its `+`. So another rule gets on to the next letter
    # of this rule by the same letter only, and none has all of them.
    wait = 1 + max([other.count("+") for other in others])
    closed = {office: [] for office in offices}
    day = 0
    for letter in reduced(rule):
        if letter == "+":
            day += 1
        else:
            closed[letter].append((day, day + wait - 1))
            day += wait
    return {office: Calendar("o", closed=closed[office]) for office in offices}, 0

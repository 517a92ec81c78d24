"""How letters move a day by calendars that have their offices; nothing is checked here."""


def step(calendars, letter, day):
    """Return the day to which the letter moves the day."""
    if letter == "+":
        return day + 1
    return calendars[letter].next_open(day)


def last_stop(calendars, rule, day):
    """Return the day to which the letters of the rule move the day one after the other."""
    for letter in rule:
        day = step(calendars, letter, day)
    return day

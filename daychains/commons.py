"""Common days: the first one on which several calendars are all open."""

from daychains.repetitions import earliest

# A multiple of the length of every pattern.
PERIOD = 840


def first_common(calendars, day):
    """Return the first day that is not earlier and on which all of the calendars are open, or None."""
    masks = {}
    while True:
        # Until the end, the same days of each period are common ones.
        common, end = _mask_at(calendars, day, masks)
        if common != 0:
            found = day + _wait(common, day % PERIOD)
            if end is None or found < end:
                return found
        if end is None:
            return None
        day = end


def _mask_at(calendars, day, masks):
    """Return the mask of the days on which all of the calendars are open, and the first day with another one, or None.

    The dict of masks keeps those that were worked out before.
    """
    common = _mask("o", masks)
    end = None
    for calendar in calendars:
        signs, until = calendar.signs_at(day)
        common &= _mask(signs, masks)
        end = earliest(end, until)
    return common, end


def _mask(signs, masks):
    """Return an integer whose bit for each day of a period tells whether these signs, repeated, are open on it."""
    if signs not in masks:
        mask = 0
        for place in range(PERIOD):
            if signs[place % len(signs)] == "o":
                mask |= 1 << place
        masks[signs] = mask
    return masks[signs]


def _wait(mask, place):
    """Return how many days after this place of the period the first bit of the mask is set; some bit is."""
    turned = (mask >> place) | (mask << (PERIOD - place))
    return (turned & -turned).bit_length() - 1

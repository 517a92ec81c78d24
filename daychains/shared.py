"""Two reduced rules: the longest reduced rule that both spell, and the shortest rule that spells both."""


def longest_shared(rule, other):
    """Return a longest reduced rule that is spelled by indices of both rules."""
    table = _two_longest(rule, other)
    found = []
    at = 0
    there = 0
    while True:
        choices = [pair for pair in table[at][there] if _may_follow(found, pair[1])]
        if not choices:
            return found
        _, letter = max(choices)
        found.append(letter)
        # No other place of the letter leaves more letters behind it.
        at = rule.index(letter, at) + 1
        there = other.index(letter, there) + 1


def shortest_around(rule, other):
    """Return a shortest rule that has indices that spell the one, and indices that spell the other rule."""
    most = _most_shared(rule, other)
    found = []
    at = 0
    there = 0
    while at < len(rule) and there < len(other):
        if rule[at] == other[there]:
            found.append(rule[at])
            at += 1
            there += 1
        elif most[at + 1][there] >= most[at][there + 1]:
            found.append(rule[at])
            at += 1
        else:
            found.append(other[there])
            there += 1
    return found + rule[at:] + other[there:]


def _may_follow(letters, letter):
    """Return whether the letters stay reduced with this one behind them."""
    return letter == "+" or not letters or letters[-1] != letter


def _two_longest(rule, other):
    """Return, for each index of the rule and of the other one, up to two pairs of a size and a letter.

    A pair tells that a reduced rule of this size that begins with this letter is spelled by both from there on. They
    are the greatest one, and the greatest one with another letter: one of them may follow, whatever stands before.
    """
    table = [[[] for _ in range(len(other) + 1)] for _ in range(len(rule) + 1)]
    for at in range(len(rule) - 1, -1, -1):
        for there in range(len(other) - 1, -1, -1):
            if rule[at] == other[there]:
                behind = table[at + 1][there + 1]
                sizes = [size for size, letter in behind if _may_follow([rule[at]], letter)]
                pairs = behind + [(1 + max(sizes, default=0), rule[at])]
            else:
                pairs = table[at + 1][there] + table[at][there + 1]
            table[at][there] = _two_greatest(pairs)
    return table


def _two_greatest(pairs):
    """Return the greatest of the pairs, and the greatest one of those with another letter, as far as there are some."""
    if not pairs:
        return []
    best = max(pairs)
    others = [pair for pair in pairs if pair[1] != best[1]]
    if not others:
        return [best]
    return [best, max(others)]


def _most_shared(rule, other):
    """Return, for each index of the rule and of the other one, how many letters both share in order from there on."""
    table = [[0] * (len(other) + 1) for _ in range(len(rule) + 1)]
    for at in range(len(rule) - 1, -1, -1):
        for there in range(len(other) - 1, -1, -1):
            if rule[at] == other[there]:
                table[at][there] = 1 + table[at + 1][there + 1]
            else:
                table[at][there] = max(table[at + 1][there], table[at][there + 1])
    return table

"""Prefixes that are known to be right: how they lie to one another, and their texts."""

from prefixtable.base.words import DIGITS


def is_above(upper, lower):
    """Return whether a prefix is above another one; each prefix is above itself."""
    return upper[0] == lower[0] and lower[1].startswith(upper[1])


def are_apart(one, other):
    """Return whether neither prefix is above the other one."""
    return not is_above(one, other) and not is_above(other, one)


def longer(prefix, word):
    """Return the prefix with a word put behind its word."""
    return prefix[0], prefix[1] + word


def behind(upper, lower):
    """Return the word that leads from a prefix to one that it is above."""
    return lower[1][len(upper[1]):]


def moved(prefix, old, new):
    """Return a prefix with the prefix new in the place of old, which is above it."""
    return longer(new, behind(old, prefix))


def children(base, prefix):
    """Return the prefixes with one more digit, ascending."""
    return [longer(prefix, digit) for digit in DIGITS[:base]]


def other_digit(word):
    """Return a digit with which the word does not begin."""
    return "1" if word.startswith("0") else "0"


def lowest(prefixes):
    """Return those prefixes that are above no other one, ascending."""
    row = sorted(set(prefixes))
    # What lies below a prefix comes right behind it in this order.
    kept = [upper for upper, lower in zip(row, row[1:]) if not is_above(upper, lower)]
    return tuple(kept + row[-1:])


def highest(prefixes):
    """Return those prefixes that no other one is above, ascending."""
    kept = []
    for prefix in sorted(set(prefixes)):
        if not kept or not is_above(kept[-1], prefix):
            kept.append(prefix)
    return tuple(kept)


def shared(one, other):
    """Return the prefixes of either row that are below one of the other row, ascending; each row is apart in itself."""
    found = []
    upper = None
    for prefix in sorted(one + other):
        # A row is apart in itself, so what is below a prefix is of the other row, and comes right behind it.
        if upper is not None and is_above(upper, prefix):
            found.append(prefix)
        else:
            upper = prefix
    return tuple(found)


def last_not_behind(row, bound):
    """Return the last item of an ascending row that is not behind the bound, or the first item if all are."""
    low = 0
    high = len(row)
    while high - low > 1:
        middle = (low + high) // 2
        if row[middle] <= bound:
            low = middle
        else:
            high = middle
    return row[low]


def one_above(prefixes, prefix):
    """Return the one of ascending prefixes, apart from one another, that is above a prefix, or None."""
    if len(prefixes) == 0:
        return None
    upper = last_not_behind(prefixes, prefix)
    return upper if is_above(upper, prefix) else None


def all_apart(prefixes):
    """Return whether each two of the prefixes are apart; none is then given twice."""
    row = sorted(prefixes)
    return not any([is_above(upper, lower) for upper, lower in zip(row, row[1:])])


def prefix_text(prefix):
    """Return the text of a prefix, like 0:011 or 2:-."""
    root, word = prefix
    return f"{root}:{word or '-'}"

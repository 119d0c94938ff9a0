"""Sets of streams as ascending tuples of prefixes that are apart: least prefixes, differences, images."""

from prefixtable.base.prefixes import children, highest, is_above, shared
from prefixtable.errors import TooMany
from prefixtable.tables.rows import least_rows, lefts_of, spread_rows


def least_prefixes(base, prefixes):
    """Return the least prefixes of the streams under any prefixes."""
    return tuple([left for left, _ in least_rows(base, [(prefix, prefix) for prefix in highest(prefixes)])])


def without(base, one, other, most):
    """Return the prefixes of the streams that are under prefixes of one, but not of other.

    If there are more than most of them, TooMany is raised; most may be None, for any number. The result is least if
    one and other are.
    """
    parts = shared(one, other)
    cut = cut_nodes(base, one, parts, most)
    gone = {prefix: True for prefix in parts}
    pieces = list(one) + [child for node in cut for child in children(base, node)]
    return tuple(sorted([prefix for prefix in pieces if prefix not in cut and prefix not in gone]))


def cut_nodes(base, prefixes, parts, most):
    """Return a dict whose keys are the prefixes that must be expanded so that just the parts can be taken away."""
    room = None if most is None else (most - len(prefixes) + len(parts)) // (base - 1)
    cut = {}
    upper = None
    for prefix in sorted(prefixes + parts):
        if upper is None or not is_above(upper, prefix):
            upper = prefix
        root, word = prefix
        size = len(word)
        least = len(upper[1])
        # A long word is refused at once: its beginnings alone would fill the memory.
        if room is not None and size - least > room:
            raise TooMany(most)
        while size > least and (root, word[:size - 1]) not in cut:
            size -= 1
            cut[root, word[:size]] = True
        if room is not None and len(cut) > room:
            raise TooMany(most)
    return cut


def images_of_parts(base, rows, prefixes):
    """Return the least prefixes of the images of the streams under prefixes that are apart, ascending."""
    parts = shared(lefts_of(rows), prefixes)
    return least_prefixes(base, [right for _, right in spread_rows(rows, parts)])

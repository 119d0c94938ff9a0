"""First returns of the streams of a region, as prefixes that are taken to prefixes."""

from prefixtable.base.prefixes import behind, one_above, shared
from prefixtable.sets.parts import without
from prefixtable.tables.rows import inverse_rows, least_rows, lefts_of, spread_rows


def returns_within(base, rows, prefixes, most):
    """Return the least returns to least prefixes with at most so many steps, and the rows of what stays away.

    These lead from where the streams are after the last step to where they began.
    """
    away = tuple([(prefix, prefix) for prefix in prefixes])
    found = []
    for steps in range(1, most + 1):
        away = after_step(rows, away)
        inside = spread_rows(away, shared(lefts_of(away), prefixes))
        found.extend([(start, steps, end) for start, end in least_rows(base, inverse_rows(inside))])
        outside = spread_rows(away, without(base, lefts_of(away), prefixes, None))
        away = least_rows(base, outside)
        if not away:
            break
    return tuple(sorted(found)), away


def after_step(rows, away):
    """Return the rows from the places one step further on to where the streams there began."""
    parts = shared(lefts_of(rows), lefts_of(away))
    ends = [right for _, right in spread_rows(rows, parts)]
    starts = [right for _, right in spread_rows(away, parts)]
    return tuple(sorted([(end, start) for end, start in zip(ends, starts)]))


def rows_of_returns(base, returns, prefixes):
    """Return the least rows of the map of the returns, with a root in the place of each of the prefixes."""
    roots = {prefix: root for root, prefix in enumerate(prefixes)}
    rows = [(under_root(roots, prefixes, start), under_root(roots, prefixes, end)) for start, _, end in returns]
    return least_rows(base, sorted(rows))


def under_root(roots, prefixes, prefix):
    """Return a prefix with the root of the one of the prefixes that is above it in the place of that one."""
    upper = one_above(prefixes, prefix)
    return roots[upper], behind(upper, prefix)

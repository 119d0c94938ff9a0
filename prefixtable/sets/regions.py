"""Regions: the streams that begin with one of finitely many prefixes, and when they come back to them."""

from prefixtable.base.codes import require_prefixes, root_code
from prefixtable.base.integers import require_number
from prefixtable.base.prefixes import one_above, prefix_text, shared
from prefixtable.base.streams import has_stream_form, leading_word
from prefixtable.base.words import require_base, require_prefix, require_roots
from prefixtable.errors import InvalidOperation, InvalidPrefix, InvalidRegion, TooMany
from prefixtable.sets.parts import images_of_parts, least_prefixes, without
from prefixtable.sets.returns import returns_within, rows_of_returns
from prefixtable.tables.table import Table, require_rows, require_square, require_table

DRAWN_ROWS = 60
MAX_STEPS = 60


class Region:
    """The streams of a base and some roots that begin with one of some prefixes; it never changes."""

    MOST = 5000

    def __init__(self, base, roots, *prefixes):
        require_base(base)
        require_roots(roots)
        require_prefixes(base, roots, prefixes)
        least = least_prefixes(base, prefixes)
        if len(least) > Region.MOST:
            raise TooMany(Region.MOST)
        self._base = base
        self._roots = roots
        self._prefixes = least

    @classmethod
    def of(cls, base, roots, prefixes):
        """Return the region of the prefixes of a tuple."""
        require_base(base)
        require_roots(roots)
        if not isinstance(prefixes, tuple):
            raise InvalidPrefix("not a tuple of prefixes")
        return cls(base, roots, *prefixes)

    @classmethod
    def whole(cls, base, roots):
        """Return the region of all streams of the roots."""
        require_base(base)
        prefixes = root_code(roots)
        return cls(base, roots, *prefixes)

    @property
    def region_base(self):
        """The base of the digits."""
        return self._base

    @property
    def region_roots(self):
        """The number of roots."""
        return self._roots

    @property
    def prefixes(self):
        """The least prefixes, ascending."""
        return self._prefixes

    def __or__(self, other):
        require_region(self._base, self._roots, other)
        prefixes = self._prefixes + other.prefixes
        return Region(self._base, self._roots, *prefixes)

    def __and__(self, other):
        require_region(self._base, self._roots, other)
        prefixes = shared(self._prefixes, other.prefixes)
        return Region(self._base, self._roots, *prefixes)

    def __sub__(self, other):
        require_region(self._base, self._roots, other)
        prefixes = without(self._base, self._prefixes, other.prefixes, Region.MOST)
        return Region(self._base, self._roots, *prefixes)

    def __invert__(self):
        return Region.whole(self._base, self._roots) - self

    def __contains__(self, value):
        if not has_stream_form(self._base, self._roots, value):
            return False
        depth = max([len(word) for _, word in self._prefixes], default=0)
        return one_above(self._prefixes, (value[0], leading_word(value, depth))) is not None

    def has_prefix(self, prefix):
        """Return whether all streams under a prefix are in the region."""
        require_prefix(self._base, self._roots, prefix)
        return one_above(self._prefixes, prefix) is not None

    def within(self, other):
        """Return whether all streams of the region are in another one."""
        require_region(self._base, self._roots, other)
        return shared(self._prefixes, other.prefixes) == self._prefixes

    def __eq__(self, other):
        return (isinstance(other, Region) and self._base == other._base and self._roots == other._roots
                and self._prefixes == other._prefixes)

    def __bool__(self):
        return bool(self._prefixes)

    def __len__(self):
        return len(self._prefixes)

    def __str__(self):
        texts = [prefix_text(prefix) for prefix in self._prefixes]
        return f"base {self._base} region {self._roots}: {' '.join(texts) or 'none'}"


def require_region(base, roots, region):
    """Raise InvalidRegion if this is not a region of the base and the roots."""
    if not isinstance(region, Region) or region.region_base != base or region.region_roots != roots:
        raise InvalidRegion("not a region of this base and these roots")


def image(table, region):
    """Return the region of the images of the streams of a region."""
    require_table(table)
    require_region(table.base, table.left_roots, region)
    prefixes = images_of_parts(table.base, table.rows, region.prefixes)
    return Region.of(table.base, table.right_roots, prefixes)


def preimage(table, region):
    """Return the region of the streams whose images are in a region."""
    require_table(table)
    return image(~table, region)


def require_own_region(table, region):
    """Raise the errors of a square table and a region of its base and roots."""
    require_square(table)
    require_region(table.base, table.left_roots, region)


def is_kept(table, region):
    """Return whether a square table takes a region to itself, as a whole."""
    require_own_region(table, region)
    return images_of_parts(table.base, table.rows, region.prefixes) == region.prefixes


def kept_part(table, region, *, steps):
    """Return the region of the streams of a region that stay in it for so many steps."""
    require_own_region(table, region)
    require_number(0, MAX_STEPS, steps)
    require_rows(DRAWN_ROWS, table)
    back = ~table
    kept = region.prefixes
    for _ in range(steps):
        left = shared(region.prefixes, images_of_parts(back.base, back.rows, kept))
        # Where one step takes nothing away, no later one does.
        if left == kept:
            break
        kept = left
    return Region.of(table.base, table.left_roots, kept)


def returns_of(table, region, most):
    """Return what returns_within tells, or raise the errors of first_returns."""
    require_own_region(table, region)
    require_number(1, MAX_STEPS, most)
    require_rows(DRAWN_ROWS, table)
    return returns_within(table.base, table.rows, region.prefixes, most)


def first_returns(table, region, *, most):
    """Return the least returns with at most so many steps, ascending, as triples (prefix, steps, prefix)."""
    returns, _ = returns_of(table, region, most)
    return returns


def never_back(table, region, *, most):
    """Return the region of the streams of a region that do not come back after at most so many steps."""
    _, away = returns_of(table, region, most)
    return Region.of(table.base, table.left_roots, tuple([start for _, start in away]))


def return_map(table, region, *, most):
    """Return the table of the returns to a region, with the number of each of its least prefixes as a root."""
    returns, away = returns_of(table, region, most)
    if not region or away or least_prefixes(table.base, [end for _, _, end in returns]) != region.prefixes:
        raise InvalidOperation("not all streams come back and are come back to")
    return Table.of(table.base, rows_of_returns(table.base, returns, region.prefixes))

"""Tables: one-to-one maps of all streams that replace their beginnings."""

from prefixtable.base.codes import has_code_form, is_finer, root_code
from prefixtable.base.integers import require_number
from prefixtable.base.prefixes import behind, is_above, lowest, moved, other_digit
from prefixtable.base.streams import normal_stream, require_stream
from prefixtable.base.words import has_prefix_form, require_base, require_prefix
from prefixtable.errors import InvalidCode, InvalidOperation, InvalidTable, NotTaken, TooMany
from prefixtable.tables.rows import (
    are_table_rows, image_of_stream, inverse_rows, least_rows, lefts_of, product_rows, row_above, rows_text,
    spread_rows)


class Table:
    """A one-to-one map of all streams of its left roots to all streams of its right roots; it never changes."""

    MAX_ROWS = 5000
    MAX_POWER = 64

    def __init__(self, base, *rows):
        require_base(base)
        if len(rows) > Table.MAX_ROWS:
            raise TooMany(Table.MAX_ROWS)
        if not are_table_rows(base, rows):
            raise InvalidTable("the two sides of the rows are not codes of this base")
        self._base = base
        self._rows = least_rows(base, sorted(rows))

    @classmethod
    def of(cls, base, rows):
        """Return the table with the rows of a tuple."""
        require_base(base)
        if not isinstance(rows, tuple):
            raise InvalidTable("the rows are not a tuple")
        return cls(base, *rows)

    @classmethod
    def identity(cls, base, *, roots=1):
        """Return the table that changes no stream of so many roots."""
        require_base(base)
        rows = [(prefix, prefix) for prefix in root_code(roots)]
        return cls(base, *rows)

    @property
    def base(self):
        """The base of the digits."""
        return self._base

    @property
    def rows(self):
        """The least rows, ascending."""
        return self._rows

    @property
    def left_roots(self):
        """The number of the roots of the streams that the table takes."""
        return self._rows[-1][0][0] + 1

    @property
    def right_roots(self):
        """The number of the roots of the images."""
        return max([right[0] for _, right in self._rows]) + 1

    @property
    def left_code(self):
        """The left prefixes of the least rows, ascending."""
        return lefts_of(self._rows)

    @property
    def right_code(self):
        """The right prefixes of the least rows, ascending."""
        return tuple(sorted([right for _, right in self._rows]))

    @property
    def is_square(self):
        """Whether there are as many left as right roots."""
        return self.left_roots == self.right_roots

    def takes(self, prefix):
        """Return the prefix to which the table takes a prefix, or None if it does not take it as a whole."""
        require_prefix(self._base, self.left_roots, prefix)
        row = row_above(self._rows, prefix)
        return None if row is None else moved(prefix, row[0], row[1])

    def __getitem__(self, prefix):
        image = self.takes(prefix)
        if image is None:
            raise NotTaken(prefix)
        return image

    def __iter__(self):
        raise TypeError("a table is not iterated over: its rows are")

    def __contains__(self, value):
        return has_prefix_form(self._base, self.left_roots, value) and row_above(self._rows, value) is not None

    def __call__(self, stream):
        require_stream(self._base, self.left_roots, stream)
        return image_of_stream(self._rows, stream)

    def over(self, code):
        """Yield the rows with the prefixes of a code that refines the left one, in their order."""
        if not has_code_form(self._base, self.left_roots, code):
            raise InvalidCode("not a code for the left roots")
        if not is_finer(code, self.left_code):
            raise InvalidOperation("the code does not refine the left code")
        for row in spread_rows(self._rows, code):
            yield row

    def __mul__(self, other):
        if not isinstance(other, Table) or other.base != self._base or other.right_roots != self.left_roots:
            raise InvalidOperation("there is no such product")
        rows = product_rows(self._base, self._rows, other.rows)
        if len(rows) > Table.MAX_ROWS:
            raise TooMany(Table.MAX_ROWS)
        return table_of_least(self._base, rows)

    def __invert__(self):
        return table_of_least(self._base, inverse_rows(self._rows))

    def __pow__(self, other):
        return self.power(other)

    def power(self, n):
        """Return the power with the exponent n, for a negative one that of the inverse."""
        if not self.is_square:
            raise InvalidOperation("a table that is not square has no powers")
        require_number(-Table.MAX_POWER, Table.MAX_POWER, n)
        step = self if n >= 0 else ~self
        found = Table.identity(self._base, roots=self.left_roots)
        # One step after another, as each power on the way may have too many rows.
        for _ in range(abs(n)):
            found = step * found
        return found

    def __eq__(self, other):
        return isinstance(other, Table) and self._base == other._base and self._rows == other._rows

    def __bool__(self):
        return any([left != right for left, right in self._rows])

    def __len__(self):
        return len(self._rows)

    def __str__(self):
        return f"base {self._base}: {rows_text(self._rows)}"


def table_of_least(base, rows):
    """Return the table with rows that are known to be least rows, ascending, and at most as many as there may be."""
    table = Table(base, ((0, ""), (0, "")))
    # Making them least again would take longer than the product or the inverse that they come from.
    table._rows = rows
    return table


def require_table(table):
    """Raise InvalidTable if this is not a table."""
    if not isinstance(table, Table):
        raise InvalidTable("not a table")


def require_square(table):
    """Raise InvalidTable if this is not a table, and InvalidOperation if it is not square."""
    require_table(table)
    if not table.is_square:
        raise InvalidOperation("the table is not square")


def require_rows(most, table):
    """Raise TooMany if a table has more least rows than this."""
    if len(table) > most:
        raise TooMany(most)


def difference(first, second):
    """Return any stream that the tables take to different streams, or None if they are equal."""
    require_table(first)
    require_table(second)
    sizes = (first.base, first.left_roots, first.right_roots)
    if sizes != (second.base, second.left_roots, second.right_roots):
        raise InvalidOperation("the tables have not the same base and the same numbers of roots")
    code = lowest(first.left_code + second.left_code)
    for one, other in zip(spread_rows(first.rows, code), spread_rows(second.rows, code)):
        if one[1] != other[1]:
            return stream_apart(one[0], one[1], other[1])
    return None


def stream_apart(prefix, one, other):
    """Return a stream under a prefix that two tables take to different streams if they take the prefix to these."""
    rest = behind(one, other) if is_above(one, other) else ""
    if is_above(other, one):
        rest = behind(other, one)
    # If one image is the other one and then the word rest, only the stream that repeats rest has both images equal.
    return normal_stream(prefix[0], prefix[1], other_digit(rest))

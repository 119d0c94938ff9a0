"""Texts of all kinds of values, written and read back."""

from prefixtable.base.prefixes import prefix_text
from prefixtable.base.streams import require_stream
from prefixtable.base.words import MAX_ROOTS, require_base, require_prefix
from prefixtable.errors import InvalidGraph, InvalidMove, InvalidOperation, InvalidRegion, InvalidTable, ParseError
from prefixtable.graphs.closed import is_graph
from prefixtable.graphs.drawing import has_move_form
from prefixtable.sets.regions import Region
from prefixtable.tables.table import Table, require_table
from prefixtable.text.reading import read_graph, read_moves, read_prefix, read_region, read_stream, read_table
from prefixtable.text.writing import graph_text, moves_text, stream_text


class Codec:
    """Writes and reads the texts of values of one base."""

    KINDS = ("graph", "moves", "prefix", "region", "stream", "table")

    def __init__(self, base):
        require_base(base)
        self._base = base

    @classmethod
    def of(cls, table):
        """Return the codec of the base of a table."""
        require_table(table)
        return cls(table.base)

    @staticmethod
    def is_kind(value):
        """Return whether the value is one of the kinds."""
        return value in Codec.KINDS

    @property
    def digit_base(self):
        """The base of the digits."""
        return self._base

    def __eq__(self, other):
        return isinstance(other, Codec) and self._base == other._base

    def text(self, kind, thing):
        """Return the text of a value of such a kind."""
        require_kind(kind)
        require_thing(self._base, kind, thing)
        return written(kind, thing)

    def parse(self, kind, text):
        """Return the value of such a kind with a text."""
        require_kind(kind)
        if not isinstance(text, str):
            raise ParseError("not a string")
        thing = read(self._base, kind, text)
        # Each value has one text only, and the readers take more.
        if written(kind, thing) != text:
            raise ParseError("not the text that is written for the value")
        return thing


def require_kind(kind):
    """Raise InvalidOperation if this is not one of the kinds."""
    if not Codec.is_kind(kind):
        raise InvalidOperation("not a kind of value that has a text")


def require_thing(base, kind, thing):
    """Raise the error of a value that is not of the kind and of the base."""
    if kind == "graph" and not (is_graph(thing) and thing[0] == base):
        raise InvalidGraph("not a graph of this base")
    if kind == "moves" and not (isinstance(thing, tuple) and all([has_move_form(base, move) for move in thing])):
        raise InvalidMove("not a tuple of moves of this base")
    if kind == "prefix":
        require_prefix(base, MAX_ROOTS, thing)
    if kind == "region" and not (isinstance(thing, Region) and thing.region_base == base):
        raise InvalidRegion("not a region of this base")
    if kind == "stream":
        require_stream(base, MAX_ROOTS, thing)
    if kind == "table" and not (isinstance(thing, Table) and thing.base == base):
        raise InvalidTable("not a table of this base")


def written(kind, thing):
    """Return the text of what is known to be a value of such a kind."""
    if kind == "graph":
        return graph_text(thing)
    if kind == "moves":
        return moves_text(thing)
    if kind == "prefix":
        return prefix_text(thing)
    if kind == "stream":
        return stream_text(thing)
    return str(thing)


def read(base, kind, signs):
    """Return a value of such a kind with which a text may have been written."""
    if kind == "graph":
        return read_graph(base, signs)
    if kind == "moves":
        return read_moves(base, signs)
    if kind == "prefix":
        return read_prefix(base, signs)
    if kind == "region":
        return read_region(base, signs)
    return read_stream(base, signs) if kind == "stream" else read_table(base, signs)


def table_listing(table):
    """Return a text with a line for each least row, and one with their number."""
    require_table(table)
    lines = [f"{prefix_text(left):<12} > {prefix_text(right)}" for left, right in table.rows]
    return "\n".join(lines + [f"{len(table):>6,} rows"])

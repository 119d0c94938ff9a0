"""Reading texts: values with which a text may have been written.

The readers take more than what is written. Only a text that is written for the value is its text.
"""

from prefixtable.base.codes import MAX_ROWS
from prefixtable.base.integers import is_integer_within
from prefixtable.base.streams import has_stream_form
from prefixtable.base.words import MAX_ROOTS, has_prefix_form
from prefixtable.errors import ParseError
from prefixtable.graphs.closed import is_graph
from prefixtable.graphs.drawing import has_move_form
from prefixtable.sets.regions import Region
from prefixtable.tables.rows import are_table_rows
from prefixtable.tables.table import Table

FIGURES = "0123456789"
MAX_FIGURES = 4000


def require_read(fits):
    """Raise ParseError if what was read does not fit."""
    if not fits:
        raise ParseError("not the text of such a value")


def read_number(signs):
    """Return the number with these figures."""
    require_read(0 < len(signs) <= MAX_FIGURES and signs.strip(FIGURES) == "")
    return int(signs)


def read_words(signs, marks):
    """Return the words of a row of words with blanks between them, in which some places hold certain words."""
    words = signs.split(" ")
    require_read(len(words) == len(marks))
    require_read(all([mark in ("", word) for mark, word in zip(marks, words)]))
    return words


def read_word(signs):
    """Return the word with a text; whether it has right digits only is looked at later."""
    require_read(signs != "")
    return "" if signs == "-" else signs


def read_prefix(base, signs):
    """Return the prefix with a text."""
    root, _, word = signs.partition(":")
    prefix = (read_number(root), read_word(word))
    require_read(has_prefix_form(base, MAX_ROOTS, prefix))
    return prefix


def read_stream(base, signs):
    """Return the stream with a text."""
    start, _, rest = signs.partition("(")
    require_read(rest.endswith(")"))
    root, head = read_prefix(base, start)
    stream = (root, head, rest[:-1])
    require_read(has_stream_form(base, MAX_ROOTS, stream))
    return stream


def read_row(base, signs):
    """Return the row of a table with a text."""
    left, _, right = read_words(signs, ("", ">", ""))
    return read_prefix(base, left), read_prefix(base, right)


def read_table(base, signs):
    """Return the table with a text."""
    start = f"base {base}: "
    require_read(signs.startswith(start))
    rows = tuple([read_row(base, row) for row in signs[len(start):].split(", ")])
    require_read(len(rows) <= MAX_ROWS and are_table_rows(base, rows))
    return Table.of(base, rows)


def read_region(base, signs):
    """Return the region with a text."""
    start = f"base {base} region "
    require_read(signs.startswith(start))
    number, _, rest = signs[len(start):].partition(": ")
    roots = read_number(number)
    prefixes = () if rest == "none" else tuple([read_prefix(base, part) for part in rest.split(" ")])
    require_read(is_integer_within(1, MAX_ROOTS, roots) and len(prefixes) <= MAX_ROWS)
    require_read(all([has_prefix_form(base, roots, prefix) for prefix in prefixes]))
    return Region.of(base, roots, prefixes)


def read_move(base, signs):
    """Return the move with a text."""
    kind, _, rest = signs.partition(" ")
    if kind == "fold":
        move = (kind, read_number(rest))
    else:
        one, other = read_words(rest, ("", ""))
        move = (kind, read_prefix(base, one), read_prefix(base, other))
    require_read(has_move_form(base, move))
    return move


def read_moves(base, signs):
    """Return the tuple of moves with a text."""
    return () if signs == "none" else tuple([read_move(base, part) for part in signs.split("; ")])


def read_edge(base, signs):
    """Return the edge with a line."""
    words = read_words(signs, ("edge", "", "", "", ">", "", "", "", ":", ""))
    source = (words[1], read_prefix(base, words[2]))
    target = (words[5], read_prefix(base, words[6]))
    return source, read_number(words[3]), target, read_number(words[7]), read_number(words[9])


def read_node(base, signs):
    """Return the node with a line."""
    _, kind, prefix = read_words(signs, ("node", "", ""))
    return kind, read_prefix(base, prefix)


def read_loop(signs):
    """Return the loop with a line."""
    _, length, _, count = read_words(signs, ("loop", "", "x", ""))
    return read_number(length), read_number(count)


def read_graph(base, signs):
    """Return the graph with a text."""
    lines = signs.split("\n")
    require_read(lines[0] == f"base {base}")
    nodes = tuple([read_node(base, line) for line in lines if line.startswith("node ")])
    edges = tuple([read_edge(base, line) for line in lines if line.startswith("edge ")])
    loops = tuple([read_loop(line) for line in lines if line.startswith("loop ")])
    graph = (base, nodes, edges, loops)
    require_read(is_graph(graph))
    return graph

"""Orbits: what becomes of single streams under all powers of a small table."""

from prefixtable.base.integers import is_integer, is_integer_within, require_number
from prefixtable.base.prefixes import longer, moved, one_above
from prefixtable.base.streams import comes_before, is_under, leading_word, require_stream, with_beginning
from prefixtable.errors import TooMany
from prefixtable.orders.growth import MAX_POWER, is_growth
from prefixtable.orders.orders import MAX_SMALL
from prefixtable.orders.settled import growths_of, limit_stream
from prefixtable.tables.rows import image_of_stream, row_of_stream
from prefixtable.tables.table import require_rows, require_square

MAX_HEAD = 30
MAX_WAIT = 20000
MAX_COUNT = 100


def require_streams(table, streams):
    """Raise InvalidTable, InvalidOperation and InvalidStream where they apply."""
    require_square(table)
    for stream in streams:
        require_stream(table.base, table.left_roots, stream)


def require_sizes(table, streams):
    """Raise TooMany if the table is not small, or a stream is too long."""
    require_rows(MAX_SMALL, table)
    for _, head, period in streams:
        if max(len(head), len(period)) > MAX_HEAD:
            raise TooMany(MAX_HEAD)


def require_orbit(table, *streams):
    """Raise the errors of a small table and streams that it takes."""
    require_streams(table, streams)
    require_sizes(table, streams)


def path(table, stream):
    """Yield the stream, its image, the image of this and so on, without end."""
    require_orbit(table, stream)
    yield from images_from(table.rows, stream)


def images_from(rows, stream):
    """Yield the same as path for rows and a stream that are known to be right."""
    at = stream
    while True:
        yield at
        at = image_of_stream(rows, at)


def orbit_certificate(table, stream):
    """Return any orbit certificate of the stream."""
    require_orbit(table, stream)
    return certificate_of(table, stream)


def certificate_of(table, stream):
    """Return the same as orbit_certificate for a table and a stream that are known to be right."""
    growths = growths_of(table)
    prefixes = tuple(growths)
    depth = max([len(word) for _, word in prefixes], default=0)
    rows = table.rows
    for count, at in enumerate(images_from(rows, stream)):
        if count > 0 and at == stream:
            return "returns", count
        prefix = one_above(prefixes, (at[0], leading_word(at, depth)))
        if prefix is not None and at != limit_stream(prefix, growths[prefix][2]):
            return "runs", count, growths[prefix]


def is_orbit_certificate(table, stream, value):
    """Return whether the value is an orbit certificate of the stream."""
    require_orbit(table, stream)
    if not isinstance(value, tuple) or len(value) not in (2, 3):
        return False
    if len(value) == 2:
        return value[0] == "returns" and is_integer(value[1]) and value[1] == steps_back(table.rows, stream)
    kind, count, told = value
    if kind != "runs" or not is_integer_within(0, MAX_WAIT, count) or not is_growth(table, told):
        return False
    prefix, _, word = told
    reached = image_after(table.rows, stream, count)
    return is_under(reached, prefix) and reached != limit_stream(prefix, word)


def image_after(rows, stream, count):
    """Return the stream to which so many steps lead."""
    for _ in range(count):
        stream = image_of_stream(rows, stream)
    return stream


def return_time(table, stream):
    """Return the least number of steps from 1 on that lead back to the stream, or None."""
    require_orbit(table, stream)
    return steps_back(table.rows, stream)


def steps_back(rows, stream):
    """Return the same as return_time for rows and a stream that are known to be right."""
    at = stream
    for count in range(1, MAX_POWER + 1):
        at = image_of_stream(rows, at)
        if at == stream:
            return count
    return None


def limit_cycle(table, stream):
    """Return the streams of the limit cycle, each followed by its image, from the first one on."""
    require_orbit(table, stream)
    told = certificate_of(table, stream)
    first = stream
    if told[0] == "runs":
        prefix, _, word = told[2]
        first = limit_stream(prefix, word)
    cycle = cycle_of_stream(table.rows, first)
    least = 0
    for place in range(len(cycle)):
        if comes_before(cycle[place], cycle[least]):
            least = place
    return cycle[least:] + cycle[:least]


def cycle_of_stream(rows, stream):
    """Return the streams of the orbit of a stream that returns, from this one on."""
    found = [stream]
    at = image_of_stream(rows, stream)
    while at != stream:
        found.append(at)
        at = image_of_stream(rows, at)
    return tuple(found)


def exponent(table, first, second):
    """Return the exponent of a power that takes the first stream to the second one, or None if there is none."""
    require_orbit(table, first, second)
    return exponent_of(table, first, second)


def exponent_of(table, first, second):
    """Return the same as exponent for a table and streams that are known to be right."""
    one = certificate_of(table, first)
    if one[0] == "returns":
        cycle = cycle_of_stream(table.rows, first)
        return cycle.index(second) if second in cycle else None
    other = certificate_of(table, second)
    if other[0] == "returns":
        return None
    prefix, power, word = other[2]
    reached = image_after(table.rows, second, other[1])
    steps, at = steps_under(table.rows, image_after(table.rows, first, one[1]), power, prefix)
    if steps is None:
        return None
    # From here on only the whole circle of the growth leads back under the prefix, and adds the word once more.
    rounds, rest = without_words(at, prefix, word)
    other_rounds, other_rest = without_words(reached, prefix, word)
    return (other_rounds - rounds) * power + one[1] + steps - other[1] if rest == other_rest else None


def steps_under(rows, stream, most, prefix):
    """Return how many steps, less than most, lead under a prefix, and the stream there; or (None, None)."""
    at = stream
    for steps in range(most):
        if is_under(at, prefix):
            return steps, at
        at = image_of_stream(rows, at)
    return None, None


def without_words(stream, prefix, word):
    """Return how often a word stands behind the prefix with which a stream begins, and the stream behind all this."""
    root = (0, "")
    rounds = 0
    rest = with_beginning(stream, prefix, root)
    while is_under(rest, longer(root, word)):
        rounds += 1
        rest = with_beginning(rest, longer(root, word), root)
    return rounds, rest


def germ(table, stream, count):
    """Return the shortest prefix of the stream that all of so many steps take as a whole, and where they lead."""
    require_streams(table, (stream,))
    require_number(-MAX_COUNT, MAX_COUNT, count)
    require_sizes(table, (stream,))
    rows = table.rows if count >= 0 else (~table).rows
    size = 0
    new = (stream[0], "")
    at = stream
    for _ in range(abs(count)):
        left, right = row_of_stream(rows, at)
        # Both prefixes must be followed by more digits of the stream if the row asks for more than are known.
        known = max(len(new[1]), len(left[1]))
        size = size + known - len(new[1])
        new = moved((at[0], leading_word(at, known)), left, right)
        at = with_beginning(at, left, right)
    return (stream[0], leading_word(stream, size)), new

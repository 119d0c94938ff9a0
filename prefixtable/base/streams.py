"""Streams that repeat from some point on, as triples (root, head, period) in normal form."""

from prefixtable.base.integers import is_integer_within, require_number
from prefixtable.base.words import MAX_ROOTS, has_word_form, require_base, require_prefix, require_roots
from prefixtable.errors import InvalidOperation, InvalidStream

MAX_COUNT = 2000


def is_stream(base, roots, value):
    """Return whether the value is a stream in normal form under one of the roots 0 to roots - 1."""
    require_base(base)
    require_roots(roots)
    return has_stream_form(base, roots, value)


def has_stream_form(base, roots, value):
    """Return the same as is_stream for a base and roots that are known to be right."""
    if not isinstance(value, tuple) or len(value) != 3 or not is_integer_within(0, roots - 1, value[0]):
        return False
    _, head, period = value
    if not has_word_form(base, head) or not has_word_form(base, period) or period == "":
        return False
    return shortest_period(period) == period and not head.endswith(period[-1])


def require_stream(base, roots, stream):
    """Raise InvalidStream if this is not a stream of the base and the roots."""
    if not has_stream_form(base, roots, stream):
        raise InvalidStream("not a stream in normal form of this base and these roots")


def require_two_streams(base, first, second):
    """Raise the errors of a base and two streams under any roots."""
    require_base(base)
    require_stream(base, MAX_ROOTS, first)
    require_stream(base, MAX_ROOTS, second)


def shortest_period(period):
    """Return the shortest word whose repetition is the period."""
    return period[:(period + period).find(period, 1)]


def normal_stream(root, head, period):
    """Return the normal form of the stream with these digits."""
    period = shortest_period(period)
    size = len(period)
    turned = 0
    while turned < len(head) and head[-1 - turned] == period[-1 - turned % size]:
        turned += 1
    cut = size - turned % size
    return root, head[:len(head) - turned], period[cut:] + period[:cut]


def make_stream(base, root, head, period):
    """Return the stream with the digits of head and then those of period for ever."""
    require_base(base)
    if not is_integer_within(0, MAX_ROOTS - 1, root) or not has_word_form(base, head):
        raise InvalidStream("the root or the head is not right")
    if not has_word_form(base, period) or period == "":
        raise InvalidStream("the period is not a word with a digit")
    return normal_stream(root, head, period)


def digits(base, stream):
    """Yield the digits of the stream as integers, without end."""
    require_base(base)
    require_stream(base, MAX_ROOTS, stream)
    _, head, period = stream
    for digit in head:
        yield int(digit)
    while True:
        for digit in period:
            yield int(digit)


def leading_word(stream, count):
    """Return the word of the first digits of a stream, any number of them."""
    _, head, period = stream
    missing = max(0, count - len(head))
    return (head + period * (missing // len(period) + 1))[:count]


def beginning(base, stream, count):
    """Return the word of the first count digits."""
    require_base(base)
    require_stream(base, MAX_ROOTS, stream)
    require_number(0, MAX_COUNT, count)
    return leading_word(stream, count)


def is_under(stream, prefix):
    """Return whether a stream begins with a prefix, when both are known to be right."""
    root, word = prefix
    return stream[0] == root and leading_word(stream, len(word)) == word


def begins_with(base, stream, prefix):
    """Return whether the stream begins with the prefix."""
    require_base(base)
    require_stream(base, MAX_ROOTS, stream)
    require_prefix(base, MAX_ROOTS, prefix)
    return is_under(stream, prefix)


def with_beginning(stream, old, new):
    """Return a stream that begins with the prefix old with the prefix new in its place."""
    _, head, period = stream
    root, word = new
    behind = len(old[1])
    turn = max(0, behind - len(head)) % len(period)
    return normal_stream(root, word + head[behind:], period[turn:] + period[:turn])


def replaced(base, stream, old, new):
    """Return the stream with the prefix new in the place of the prefix old."""
    require_base(base)
    require_stream(base, MAX_ROOTS, stream)
    require_prefix(base, MAX_ROOTS, old)
    require_prefix(base, MAX_ROOTS, new)
    if not is_under(stream, old):
        raise InvalidOperation("the stream does not begin with the old prefix")
    return with_beginning(stream, old, new)


def telling_count(first, second):
    """Return a number of digits among which two streams differ if they differ at all."""
    return max(len(first[1]), len(second[1])) + len(first[2]) + len(second[2])


def common_beginning(base, first, second):
    """Return the longest prefix with which both streams begin, or None if their roots differ."""
    require_two_streams(base, first, second)
    if first == second:
        raise InvalidOperation("the streams are equal")
    if first[0] != second[0]:
        return None
    count = telling_count(first, second)
    one = leading_word(first, count)
    other = leading_word(second, count)
    at = 0
    while one[at] == other[at]:
        at += 1
    return first[0], one[:at]


def comes_before(first, second):
    """Return whether a stream comes before another one, when both are known to be right."""
    if first[0] != second[0]:
        return first[0] < second[0]
    count = telling_count(first, second)
    return leading_word(first, count) < leading_word(second, count)


def precedes(base, first, second):
    """Return whether the first stream comes before the second one."""
    require_two_streams(base, first, second)
    return comes_before(first, second)


def common_end(one, other):
    """Return the length of the longest word with which both words end."""
    size = 0
    while size < min(len(one), len(other)) and one[-1 - size] == other[-1 - size]:
        size += 1
    return size


def tail_shift(base, first, second):
    """Return the least pair (m, n) such that the tails behind m and n digits are equal, or None."""
    require_two_streams(base, first, second)
    _, head, period = first
    _, other_head, other_period = second
    if period == other_period:
        # Both are in normal form, so tails that begin in the heads are equal only as far as the heads agree.
        common = common_end(head, other_head)
        return len(head) - common, len(other_head) - common
    turn = (other_period + other_period).find(period)
    if len(period) != len(other_period) or turn < 0:
        return None
    return len(head), len(other_head) + turn

"""Building tables: swaps and cycles, tables within and beside one another, lists of swaps, and signs."""

from prefixtable.base.codes import (
    MAX_ROWS, code_through_all, nodes_inside, require_code, require_prefixes, root_code)
from prefixtable.base.prefixes import all_apart, are_apart, behind, is_above, longer, moved
from prefixtable.base.words import DIGITS, has_prefix_form, require_base, require_prefix, require_roots
from prefixtable.errors import InvalidOperation, InvalidTable
from prefixtable.tables.rows import least_rows
from prefixtable.tables.table import Table, require_rows, require_square, require_table

MAX_SWAPS = 200
SMALL_ROWS = 9


def swap(base, roots, one, other):
    """Return the table that exchanges two prefixes."""
    return cycle_of(base, roots, (one, other))


def cycle(base, roots, *prefixes):
    """Return the table that takes each of the prefixes to the next one, and the last one to the first one."""
    return cycle_of(base, roots, prefixes)


def cycle_of(base, roots, prefixes):
    """Return the cycle of a tuple of prefixes."""
    require_base(base)
    require_roots(roots)
    require_prefixes(base, roots, prefixes)
    if not all_apart(prefixes):
        raise InvalidOperation("two of the prefixes are not apart")
    return with_rest(base, roots, zip_rows(prefixes, prefixes[1:] + prefixes[:1]))


def zip_rows(lefts, rights):
    """Return the rows that take each prefix to the one at the same position."""
    return [(left, right) for left, right in zip(lefts, rights)]


def with_rest(base, roots, rows):
    """Return the square table that has these rows and leaves all other streams."""
    # Only least rows tell how many rows the table has: a long cycle may have few.
    changing = least_rows(base, sorted([row for row in rows if row[0] != row[1]]))
    images = {left: right for left, right in changing}
    code = code_through_all(base, roots, tuple([left for left, _ in changing]))
    return Table.of(base, tuple([(prefix, images.get(prefix, prefix)) for prefix in code]))


def within(table, roots, prefix):
    """Return the square table with so many roots that does a table behind a prefix and leaves all other streams."""
    require_table(table)
    if table.left_roots != 1 or table.right_roots != 1:
        raise InvalidOperation("the table has not one root on both sides")
    require_roots(roots)
    require_prefix(table.base, roots, prefix)
    rows = [(longer(prefix, left[1]), longer(prefix, right[1])) for left, right in table.rows]
    return with_rest(table.base, roots, rows)


def beside(*tables):
    """Return the table that has the roots of all tables, and does each one on its roots."""
    return beside_all(tables)


def beside_all(tables):
    """Return the same as beside for a tuple of tables."""
    if not isinstance(tables, tuple):
        raise InvalidTable("not a tuple of tables")
    for table in tables:
        require_table(table)
    if len(tables) == 0 or not all([table.base == tables[0].base for table in tables]):
        raise InvalidOperation("there is no table, or the bases differ")
    rows = []
    left_roots = 0
    right_roots = 0
    for table in tables:
        rows.extend([(lowered(left, left_roots), lowered(right, right_roots)) for left, right in table.rows])
        left_roots = left_roots + table.left_roots
        right_roots = right_roots + table.right_roots
    return Table.of(tables[0].base, tuple(rows))


def lowered(prefix, roots):
    """Return the prefix behind so many more roots."""
    return prefix[0] + roots, prefix[1]


def in_order(base, left, right):
    """Return the table that takes each prefix of a code to that at the same position of another one."""
    require_base(base)
    require_code(base, left)
    require_code(base, right)
    if len(left) != len(right):
        raise InvalidOperation("one code has more prefixes than the other one")
    return Table.of(base, tuple(zip_rows(left, right)))


def swaps_of(table):
    """Return any list of swaps whose product is a small table."""
    require_square(table)
    require_rows(SMALL_ROWS, table)
    reshaping = swaps_between(table.left_code, table.right_code)
    images = {after_swaps(left, reshaping): right for left, right in table.rows}
    return tuple(reshaping + swaps_of_permutation(images))


def swaps_between(code, goal):
    """Return swaps that take each prefix of a code to a prefix of another one with equally many."""
    given = nodes_inside(code)
    wanted = nodes_inside(goal)
    surplus = [node for node in given if node not in wanted]
    missing = [node for node in wanted if node not in given]
    # From the last node on no other surplus node is below the next one, so only its children are; and from the
    # first missing one on each is a prefix of the code that was reached. So each swap moves one inner node.
    return zip_rows(surplus[::-1], missing)


def swaps_of_permutation(images):
    """Return swaps whose product takes each prefix to its image; the images are the same prefixes."""
    found = []
    done = {}
    for first in sorted(images):
        at = first if first in done else images[first]
        while at != first:
            found.append((first, at))
            done[at] = True
            at = images[at]
    return found


def swapped(prefix, one, other):
    """Return the image of a prefix that is above neither one nor the other under their swap."""
    if is_above(one, prefix):
        return moved(prefix, one, other)
    if is_above(other, prefix):
        return moved(prefix, other, one)
    return prefix


def after_swaps(prefix, swaps):
    """Return the image of a prefix that each of the swaps, one after another, takes as a whole."""
    for one, other in swaps:
        prefix = swapped(prefix, one, other)
    return prefix


def is_swaps(table, value):
    """Return whether the value is a list of swaps whose product is the table."""
    require_square(table)
    roots = table.left_roots
    return is_list_of_swaps(table.base, roots, value) and product_of_list(table.base, roots, value) == table


def product_of_swaps(base, roots, swaps):
    """Return the table that does the swaps one after another, the first one first."""
    require_base(base)
    require_roots(roots)
    if not is_list_of_swaps(base, roots, swaps):
        raise InvalidOperation("not a list of swaps")
    return product_of_list(base, roots, swaps)


def is_list_of_swaps(base, roots, value):
    """Return whether the value is a list of swaps for the base and the roots."""
    if not isinstance(value, tuple) or len(value) > MAX_SWAPS:
        return False
    if not all([is_pair_apart(base, roots, pair) for pair in value]):
        return False
    return roots + (base - 1) * sum([len(word) for pair in value for _, word in pair]) <= MAX_ROWS


def is_pair_apart(base, roots, value):
    """Return whether the value is a pair of apart prefixes of the base and the roots."""
    if not isinstance(value, tuple) or len(value) != 2:
        return False
    return all([has_prefix_form(base, roots, prefix) for prefix in value]) and are_apart(value[0], value[1])


def product_of_list(base, roots, swaps):
    """Return the product of what is known to be a list of swaps."""
    rows = [(prefix, prefix) for prefix in root_code(roots)]
    for one, other in swaps:
        rows = split_rows(base, split_rows(base, rows, one), other)
        rows = [(left, swapped(right, one, other)) for left, right in rows]
    return Table.of(base, tuple(rows))


def split_rows(base, rows, prefix):
    """Return rows of the same map of which none has a right prefix above the prefix, other than itself."""
    found = []
    for left, right in rows:
        if is_above(right, prefix):
            way = behind(right, prefix)
            aside = [way[:at] + digit for at in range(len(way)) for digit in DIGITS[:base] if digit != way[at]]
            found.extend([(longer(left, word), longer(right, word)) for word in aside + [way]])
        else:
            found.append((left, right))
    return found


def sign(table):
    """Return the sign of a table with an odd base."""
    require_table(table)
    if table.base % 2 == 0:
        raise InvalidOperation("a table with an even base has no sign")
    places = {right: place for place, right in enumerate(table.right_code)}
    images = [places[right] for _, right in table.rows]
    return 1 if even_permutation(images) else -1


def even_permutation(images):
    """Return whether evenly many pairs of positions change their order."""
    even = True
    done = {}
    for first in range(len(images)):
        at = first if first in done else images[first]
        # Each cycle is a product of one swap less than it has positions.
        while at != first:
            done[at] = True
            even = not even
            at = images[at]
    return even

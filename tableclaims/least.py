"""Least keys and least left sides: sets of columns, each the tuple of its columns' numbers, rising."""

from tableclaims.tables import alike_rows

MOST_IN_KEY = 3
MOST_IN_LEFT_SIDE = 2


def one_more(chosen, places):
    return [chosen + (place,) for place in places if chosen == () or chosen[-1] < place]


def column_sets(places, most):
    # Fewer columns first, then by the first column that differs: so the sets are ordered.
    ordered = [()]
    longest = [()]
    while len(longest[0]) < most:
        longer = []
        for chosen in longest:
            longer.extend(one_more(chosen, places))
        if longer == []:
            return ordered
        ordered.extend(longer)
        longest = longer
    return ordered


def is_within(part, whole):
    return all([place in whole for place in part])


def has_one_within(parts, whole):
    return any([is_within(part, whole) for part in parts])


def is_key(places, rows):
    return len(alike_rows(rows, places)) == len(rows)


def is_left_side(places, fixed, rows):
    # Another column parts no group just if rows alike in the places are alike in it.
    return len(alike_rows(rows, places)) == len(alike_rows(rows, places + (fixed,)))


def least_keys(table):
    least = []
    for places in column_sets(list(range(len(table.columns))), MOST_IN_KEY):
        if not has_one_within(least, places) and is_key(places, table.rows):
            least.append(places)
    return least


def least_left_sides(table, fixed):
    others = [place for place in range(len(table.columns)) if place != fixed]
    least = []
    for places in column_sets(others, MOST_IN_LEFT_SIDE):
        if not has_one_within(least, places) and is_left_side(places, fixed, table.rows):
            least.append(places)
    return least

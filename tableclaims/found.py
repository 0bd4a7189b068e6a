"""What's found in a table: claims, each told as (its tree, on how many rows it says something)."""

from tableclaims.least import has_one_within, is_key, least_keys, least_left_sides
from tableclaims.tables import MISSING, alike_rows, column_names, has_numbers, picked, words_of


def cells_in(table, place):
    return [row[place] for row in table.rows]


def told_cells(table, place):
    return [cell for cell in cells_in(table, place) if cell != MISSING]


def number_places(table):
    return [place for place, column in enumerate(table.columns) if has_numbers(column)]


def gone(head, name):
    return ("gone", (head, name))


def not_less(first, second):
    return ("not", ("less", first, second))


def filled_claims(table):
    found = []
    for place, column in enumerate(table.columns):
        if column.maybe and table.rows != [] and MISSING not in cells_in(table, place):
            found.append((("each", table.name, ("not", gone("col", column.name))), len(table.rows)))
    return found


def range_claims(table):
    found = []
    for place in number_places(table):
        cells = told_cells(table, place)
        if cells != []:
            name = table.columns[place].name
            here = ("col", name)
            within = ("and", not_less(here, min(cells)), not_less(max(cells), here))
            found.append((("each", table.name, ("or", gone("col", name), within)), len(cells)))
    return found


def word_claims(table):
    found = []
    for place, column in enumerate(table.columns):
        cells = told_cells(table, place)
        if not has_numbers(column):
            words = [word for word in words_of(column) if word in cells]
            if words != [] and len(words) < len(words_of(column)):
                same = [("same", ("col", column.name), ("word", word)) for word in words]
                condition = ("or", gone("col", column.name)) + tuple(same)
                found.append((("each", table.name, condition), len(cells)))
    return found


def is_below(table, low, high, twos):
    if any([two[0] > two[1] for two in twos]):
        return False
    # Where the ranges don't overlap they say it already.
    return max(told_cells(table, low)) > min(told_cells(table, high))


def unless_gone(first, second, condition):
    return ("or", gone("col", first), gone("col", second), condition)


def below_condition(low, high):
    return unless_gone(low, high, not_less(("col", high), ("col", low)))


def compared(table, first, second, twos):
    one = table.columns[first].name
    other = table.columns[second].name
    if all([two[0] == two[1] for two in twos]):
        return unless_gone(one, other, ("same", ("col", one), ("col", other)))
    if is_below(table, first, second, twos):
        return below_condition(one, other)
    if is_below(table, second, first, [(two[1], two[0]) for two in twos]):
        return below_condition(other, one)
    return None


def compared_claims(table):
    places = number_places(table)
    found = []
    for first in places:
        for second in [place for place in places if place > first]:
            cells = [picked(row, (first, second)) for row in table.rows]
            twos = [two for two in cells if MISSING not in two]
            condition = None if twos == [] else compared(table, first, second, twos)
            if condition is not None:
                found.append((("each", table.name, condition), len(twos)))
    return found


def rising_claims(table):
    found = []
    for place in number_places(table):
        cells = cells_in(table, place)
        twos = [two for two in zip(cells, cells[1:]) if MISSING not in two]
        if twos != [] and all([two[0] <= two[1] for two in twos]):
            name = table.columns[place].name
            rises = not_less(("two", name), ("one", name))
            found.append((("next", table.name, ("or", gone("one", name), gone("two", name), rises)), len(twos)))
    return found


def names_at(table, places):
    return picked(column_names(table), places)


def key_claims(table, least):
    return [(("key", table.name, names_at(table, places)), len(table.rows)) for places in least]


def rows_not_alone(table, places):
    groups = alike_rows(table.rows, places)
    return sum([len(group) for group in groups.values() if len(group) > 1])


def fixed_claims(table, least):
    found = []
    for fixed, column in enumerate(table.columns):
        for places in least_left_sides(table, fixed):
            if not has_one_within(least, places):
                tree = ("fixes", table.name, names_at(table, places), (column.name,))
                found.append((tree, rows_not_alone(table, places)))
    return found


def refers_into(cells, column, other, place):
    if has_numbers(column) != has_numbers(other.columns[place]) or not is_key((place,), other.rows):
        return False
    there = cells_in(other, place)
    return all([cell in there for cell in cells])


def refers_from(table, place, other):
    column = table.columns[place]
    cells = told_cells(table, place)
    found = []
    for target, wanted in enumerate(other.columns):
        if cells != [] and refers_into(cells, column, other, target):
            tree = ("refers", table.name, (column.name,), other.name, (wanted.name,))
            found.append((tree, len(cells)))
    return found


def refers_claims(table, tables):
    found = []
    for place in range(len(table.columns)):
        for other in tables:
            if other.name != table.name:
                found.extend(refers_from(table, place, other))
    return found


def found_claims(table, tables):
    least = least_keys(table)
    found = filled_claims(table) + range_claims(table) + word_claims(table)
    found = found + compared_claims(table) + rising_claims(table)
    found = found + key_claims(table, least) + fixed_claims(table, least)
    return found + refers_claims(table, tables)

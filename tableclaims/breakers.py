"""Claims: what they name, and their breakers, each the tuple of its rows' numbers."""

from tableclaims.conditions import columns_named, is_so
from tableclaims.refusals import NotThere, WrongShape
from tableclaims.shapes import is_claim
from tableclaims.tables import MISSING, alike_rows, column_names, has_numbers, picked, places_of, table_called


def check_measure(measure, table):
    if measure[0] == "sum":
        place = places_of(measure[1:], table)[0]
        if not has_numbers(table.columns[place]):
            raise NotThere()


def check_named(claim, tables):
    table = table_called(claim[1], tables)
    head = claim[0]
    if head in ("each", "any", "pairs", "next"):
        places_of(columns_named(claim[2]), table)
        return
    places_of(claim[2], table)
    if head == "fixes":
        places_of(claim[3], table)
    if head == "refers":
        places_of(claim[4], table_called(claim[3], tables))
    if head == "groups":
        check_measure(claim[3], table)


def check_claim(claim, tables):
    if not is_claim(claim):
        raise WrongShape()
    check_named(claim, tables)


def cells_by_name(table):
    names = column_names(table)
    return [dict(zip(names, row)) for row in table.rows]


def rows_against(condition, table):
    rows = cells_by_name(table)
    return [(number,) for number, cells in enumerate(rows) if not is_so(condition, {"col": cells})]


def all_twos(count):
    twos = []
    for first in range(count):
        twos.extend([(first, second) for second in range(first + 1, count)])
    return twos


def neighbours(count):
    return [(first, first + 1) for first in range(count - 1)]


def twos_against(condition, table, twos):
    rows = cells_by_name(table)
    return [two for two in twos if not is_so(condition, {"one": rows[two[0]], "two": rows[two[1]]})]


def cells_under(names, table):
    places = places_of(names, table)
    return [picked(row, places) for row in table.rows]


def twos_alike(table, names):
    cells = cells_under(names, table)
    return [two for two in all_twos(len(cells)) if cells[two[0]] == cells[two[1]]]


def twos_not_fixed(table, names, others):
    cells = cells_under(others, table)
    return [two for two in twos_alike(table, names) if cells[two[0]] != cells[two[1]]]


def rows_not_found(table, names, other, others):
    there = cells_under(others, other)
    asked = cells_under(names, table)
    return [(number,) for number, cells in enumerate(asked) if MISSING not in cells and cells not in there]


def measured(measure, table, group):
    if measure[0] == "count":
        return len(group)
    place = places_of(measure[1:], table)[0]
    cells = [table.rows[number][place] for number in group]
    return sum([cell for cell in cells if cell != MISSING])


def groups_outside(claim, table):
    groups = alike_rows(table.rows, places_of(claim[2], table))
    outside = []
    for group in groups.values():
        amount = measured(claim[3], table, group)
        if amount < claim[4] or amount > claim[5]:
            outside.append(tuple(group))
    return outside


def any_breakers(condition, table):
    if len(rows_against(condition, table)) < len(table.rows):
        return []
    return [()]


def breakers(claim, tables):
    table = table_called(claim[1], tables)
    head = claim[0]
    if head == "each":
        return rows_against(claim[2], table)
    if head == "any":
        return any_breakers(claim[2], table)
    if head == "pairs":
        return twos_against(claim[2], table, all_twos(len(table.rows)))
    if head == "next":
        return twos_against(claim[2], table, neighbours(len(table.rows)))
    if head == "key":
        return twos_alike(table, claim[2])
    if head == "fixes":
        return twos_not_fixed(table, claim[2], claim[3])
    if head == "refers":
        return rows_not_found(table, claim[2], table_called(claim[3], tables), claim[4])
    return groups_outside(claim, table)

"""Tables: their shape, their rows, and which rows are alike."""

from tableclaims.refusals import NamedTwice, NoSuchColumn, NotThere, WrongCell, WrongShape

MISSING = ()
MOST_COLUMNS = 6
MOST_ROWS = 40
MOST_WORDS = 10


class Column:
    def __init__(self, name, kind, maybe):
        self.name = name
        self.kind = kind
        self.maybe = maybe


class Table:
    def __init__(self, name, columns, rows):
        self.name = name
        self.columns = columns
        self.rows = rows


def are_words(trees):
    return all([isinstance(tree, str) for tree in trees])


def is_kind(tree):
    if not isinstance(tree, tuple) or len(tree) < 2:
        return False
    if tree[0] == "up":
        return len(tree) == 2 and isinstance(tree[1], int) and tree[1] >= 1
    return tree[0] == "of" and len(tree) <= MOST_WORDS + 1 and are_words(tree[1:])


def is_column(tree):
    if not isinstance(tree, tuple) or len(tree) < 2:
        return False
    if not isinstance(tree[0], str) or not is_kind(tree[1]):
        return False
    return tree[2:] == () or tree[2:] == ("maybe",)


def are_columns(tree):
    if not isinstance(tree, tuple) or len(tree) < 1 or len(tree) > MOST_COLUMNS:
        return False
    return all([is_column(part) for part in tree])


def is_cell(tree):
    return tree == MISSING or not isinstance(tree, tuple)


def is_row(tree):
    return isinstance(tree, tuple) and all([is_cell(part) for part in tree])


def are_rows(trees):
    return len(trees) <= MOST_ROWS and all([is_row(tree) for tree in trees])


def is_table(tree):
    if not isinstance(tree, tuple) or len(tree) < 3:
        return False
    if tree[0] != "table" or not isinstance(tree[1], str):
        return False
    return are_columns(tree[2]) and are_rows(tree[3:])


def all_differ(words):
    return len(set(words)) == len(words)


def has_numbers(column):
    return column.kind[0] == "up"


def words_of(column):
    return column.kind[1:]


def column_names(table):
    return [column.name for column in table.columns]


def check_names(columns):
    if not all_differ([column.name for column in columns]):
        raise NamedTwice()
    for column in columns:
        if not has_numbers(column) and not all_differ(words_of(column)):
            raise NamedTwice()


def fits(cell, column):
    if cell == MISSING:
        return column.maybe
    if has_numbers(column):
        return isinstance(cell, int) and cell < column.kind[1]
    return cell in words_of(column)


def check_cells(rows, columns):
    for row in rows:
        if len(row) != len(columns):
            raise WrongCell()
        if not all([fits(cell, column) for cell, column in zip(row, columns)]):
            raise WrongCell()


def table_from(tree):
    if not is_table(tree):
        raise WrongShape()
    columns = [Column(part[0], part[1], len(part) == 3) for part in tree[2]]
    check_names(columns)
    rows = list(tree[3:])
    check_cells(rows, columns)
    return Table(tree[1], columns, rows)


def rows_from(trees, columns):
    if not are_rows(trees):
        raise WrongShape()
    check_cells(trees, columns)
    return list(trees)


def table_called(name, tables):
    for table in tables:
        if table.name == name:
            return table
    raise NotThere()


def places_of(names, table):
    known = column_names(table)
    if not all([name in known for name in names]):
        raise NotThere()
    return tuple([known.index(name) for name in names])


def places_told(trees, table):
    if not are_words(trees):
        raise WrongShape()
    try:
        return places_of(trees, table)
    except NotThere:
        raise NoSuchColumn()


def picked(things, places):
    return tuple([things[place] for place in places])


def alike_rows(rows, places):
    # Keyed by the cells that the rows share; the groups stand in the order of their first rows.
    groups = {}
    for number, row in enumerate(rows):
        groups.setdefault(picked(row, places), []).append(number)
    return groups

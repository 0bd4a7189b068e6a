"""The calls on an object that holds tables, read from and answered as whole numbers."""

from tableclaims.breakers import breakers, check_claim
from tableclaims.following import all_others, cover, follows, keys_and_fixed
from tableclaims.found import found_claims
from tableclaims.least import is_left_side, least_keys
from tableclaims.refusals import NameTaken, NoKeyOrFixedColumn, NoSuchClaim, NotReadable, Refusal, TooManyTables
from tableclaims.tables import Table, column_names, places_told, rows_from, table_called, table_from
from tableclaims.trees import answered_bytes, read_one_tree, read_trees, text_of

TABLE = 0
ROWS = 1
FOUND = 2
TOLD = 3
SUPPORT = 4
HOLDS = 5
STILL = 6
KEYS = 7
FIXED = 8
COVER = 9
FOLLOWS = 10
MOST_TABLES = 3
MOST_BYTES_OF_CLAIM = 700


class Reader:
    def __init__(self, numbers):
        self.numbers = numbers
        self.place = 0

    def at_end(self):
        return self.place >= len(self.numbers)

    def take(self):
        number = self.numbers[self.place]
        self.place = self.place + 1
        return number

    def take_list(self):
        size = self.take()
        start = self.place
        self.place = start + size
        return self.numbers[start:self.place]


def table_named(tables, codes):
    return table_called(text_of(codes), tables)


def answer_table(tables, text):
    table = table_from(read_one_tree(text))
    if table.name in [held.name for held in tables]:
        raise NameTaken()
    if len(tables) >= MOST_TABLES:
        raise TooManyTables()
    tables.append(table)
    return [len(table.columns), len(table.rows)]


def answer_rows(tables, name, text):
    table = table_named(tables, name)
    table.rows = rows_from(read_trees(text), table.columns)
    return [len(table.rows)]


def found_trees(table, tables):
    return [claim[0] for claim in found_claims(table, tables)]


def counted_text(trees):
    return [len(trees)] + answered_bytes(trees)


def answer_found(tables, name):
    return counted_text(found_trees(table_named(tables, name), tables))


def found_claim(tables, number, name):
    found = found_claims(table_named(tables, name), tables)
    if number < 0 or number >= len(found):
        raise NoSuchClaim()
    return found[number]


def answer_told(tables, number, name):
    claim = found_claim(tables, number, name)
    return answered_bytes([claim[0]])


def answer_support(tables, number, name):
    claim = found_claim(tables, number, name)
    return [claim[1]]


def answer_holds(tables, text):
    if len(text) > MOST_BYTES_OF_CLAIM:
        raise NotReadable()
    claim = read_one_tree(text)
    check_claim(claim, tables)
    broken = breakers(claim, tables)
    return [1 if broken == [] else 0, len(broken)]


def with_rows(table, rows, tables):
    other = Table(table.name, table.columns, rows)
    return [other if held.name == table.name else held for held in tables]


def answer_still(tables, name, text):
    table = table_named(tables, name)
    instead = with_rows(table, rows_from(read_trees(text), table.columns), tables)
    found = found_trees(table, tables)
    numbers = [number for number, claim in enumerate(found) if breakers(claim, instead) == []]
    return [len(numbers)] + numbers


def answer_keys(tables, name):
    least = least_keys(table_named(tables, name))
    told = [len(least)]
    for places in least:
        told.append(len(places))
        told.extend(places)
    return told


def answer_fixed(tables, name, text):
    table = table_named(tables, name)
    places = places_told(read_trees(text), table)
    fixed = [place for place in range(len(table.columns)) if is_left_side(places, place, table.rows)]
    return [len(fixed)] + fixed


def answer_cover(tables, name):
    table = table_named(tables, name)
    return counted_text(cover(keys_and_fixed(found_trees(table, tables)), column_names(table)))


def answer_follows(tables, number, name):
    claim = found_claim(tables, number, name)[0]
    table = table_named(tables, name)
    found = keys_and_fixed(found_trees(table, tables))
    if claim not in found:
        raise NoKeyOrFixedColumn()
    return [1 if follows(claim, all_others(claim, found), column_names(table)) else 0]


def answer_call(tables, reader):
    call = reader.take()
    if call == TABLE:
        return answer_table(tables, reader.take_list())
    if call == ROWS:
        return answer_rows(tables, reader.take_list(), reader.take_list())
    if call == FOUND:
        return answer_found(tables, reader.take_list())
    if call == TOLD:
        return answer_told(tables, reader.take(), reader.take_list())
    if call == SUPPORT:
        return answer_support(tables, reader.take(), reader.take_list())
    if call == HOLDS:
        return answer_holds(tables, reader.take_list())
    if call == STILL:
        return answer_still(tables, reader.take_list(), reader.take_list())
    if call == KEYS:
        return answer_keys(tables, reader.take_list())
    if call == FIXED:
        return answer_fixed(tables, reader.take_list(), reader.take_list())
    if call == COVER:
        return answer_cover(tables, reader.take_list())
    if call == FOLLOWS:
        return answer_follows(tables, reader.take(), reader.take_list())
    raise ValueError("no such call")


def answer_or_refusal(tables, reader):
    try:
        return answer_call(tables, reader)
    except Refusal as refusal:
        return [refusal.number]


def answers(calls):
    reader = Reader(calls)
    tables = []
    told = []
    while not reader.at_end():
        answer = answer_or_refusal(tables, reader)
        told.append(len(answer))
        told.extend(answer)
    return told

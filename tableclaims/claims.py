"""The calls on an object that holds tables, read from and answered as whole numbers."""

from tableclaims.breakers import breakers, check_claim
from tableclaims.found import found_claims
from tableclaims.refusals import NameTaken, NoSuchClaim, NotReadable, Refusal, TooManyTables
from tableclaims.tables import rows_from, table_called, table_from
from tableclaims.trees import answered_bytes, read_one_tree, read_trees, text_of

TABLE = 0
ROWS = 1
FOUND = 2
TOLD = 3
SUPPORT = 4
HOLDS = 5
MOST_TABLES = 3
MOST_BYTES_OF_CLAIM = 700


class Reader:
    def __init__(self, numbers):
        self.numbers = numbers
        self.place = 0

    def at_end(self):
        return self.place >= len(self.numbers)

    def take(self):
        number = self.numbers[self.place]
        self.place = self.place + 1
        return number

    def take_list(self):
        size = self.take()
        start = self.place
        self.place = start + size
        return self.numbers[start:self.place]


def table_named(tables, codes):
    return table_called(text_of(codes), tables)


def answer_table(tables, text):
    table = table_from(read_one_tree(text))
    if table.name in [held.name for held in tables]:
        raise NameTaken()
    if len(tables) >= MOST_TABLES:
        raise TooManyTables()
    tables.append(table)
    return [len(table.columns), len(table.rows)]


def answer_rows(tables, name, text):
    table = table_named(tables, name)
    table.rows = rows_from(read_trees(text), table.columns)
    return [len(table.rows)]


def answer_found(tables, name):
    found = found_claims(table_named(tables, name), tables)
    return [len(found)] + answered_bytes([claim[0] for claim in found])


def found_claim(tables, number, name):
    found = found_claims(table_named(tables, name), tables)
    if number < 0 or number >= len(found):
        raise NoSuchClaim()
    return found[number]


def answer_told(tables, number, name):
    claim = found_claim(tables, number, name)
    return answered_bytes([claim[0]])


def answer_support(tables, number, name):
    claim = found_claim(tables, number, name)
    return [claim[1]]


def answer_holds(tables, text):
    if len(text) > MOST_BYTES_OF_CLAIM:
        raise NotReadable()
    claim = read_one_tree(text)
    check_claim(claim, tables)
    broken = breakers(claim, tables)
    return [1 if broken == [] else 0, len(broken)]


def answer_call(tables, reader):
    call = reader.take()
    if call == TABLE:
        return answer_table(tables, reader.take_list())
    if call == ROWS:
        return answer_rows(tables, reader.take_list(), reader.take_list())
    if call == FOUND:
        return answer_found(tables, reader.take_list())
    if call == TOLD:
        return answer_told(tables, reader.take(), reader.take_list())
    if call == SUPPORT:
        return answer_support(tables, reader.take(), reader.take_list())
    if call == HOLDS:
        return answer_holds(tables, reader.take_list())
    raise NotImplementedError("no such call")


def answer_or_refusal(tables, reader):
    try:
        return answer_call(tables, reader)
    except Refusal as refusal:
        return [refusal.number]


def answers(calls):
    reader = Reader(calls)
    tables = []
    told = []
    while not reader.at_end():
        answer = answer_or_refusal(tables, reader)
        told.append(len(answer))
        told.extend(answer)
    return told

"""Claims by their shape alone, whatever tables and columns they name."""

from tableclaims.conditions import is_condition
from tableclaims.tables import are_words

ONE_ROW = ("col",)
TWO_ROWS = ("one", "two")


def is_names(tree):
    return isinstance(tree, tuple) and are_words(tree)


def is_refers(tree):
    if len(tree) != 5 or not isinstance(tree[3], str):
        return False
    if not is_names(tree[2]) or not is_names(tree[4]):
        return False
    return len(tree[2]) >= 1 and len(tree[2]) == len(tree[4])


def is_measure(tree):
    if tree == ("count",):
        return True
    return isinstance(tree, tuple) and len(tree) == 2 and tree[0] == "sum" and isinstance(tree[1], str)


def is_groups(tree):
    if len(tree) != 6 or not is_names(tree[2]) or not is_measure(tree[3]):
        return False
    return isinstance(tree[4], int) and isinstance(tree[5], int)


def is_claim(tree):
    if not isinstance(tree, tuple) or len(tree) < 3 or not isinstance(tree[1], str):
        return False
    head = tree[0]
    if head in ("each", "any"):
        return len(tree) == 3 and is_condition(tree[2], ONE_ROW)
    if head in ("pairs", "next"):
        return len(tree) == 3 and is_condition(tree[2], TWO_ROWS)
    if head == "key":
        return len(tree) == 3 and is_names(tree[2])
    if head == "fixes":
        return len(tree) == 4 and is_names(tree[2]) and is_names(tree[3])
    if head == "refers":
        return is_refers(tree)
    return head == "groups" and is_groups(tree)

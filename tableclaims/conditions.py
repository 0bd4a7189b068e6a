"""Expressions and conditions: their shape, the columns that they name, and what they come to."""

from tableclaims.tables import MISSING

CELL_HEADS = ("col", "one", "two")


def is_expression(tree, heads):
    if isinstance(tree, int):
        return True
    if not isinstance(tree, tuple) or len(tree) < 2:
        return False
    if tree[0] == "word" or tree[0] in heads:
        return len(tree) == 2 and isinstance(tree[1], str)
    return tree[0] in ("add", "sub") and len(tree) == 3 and are_expressions(tree[1:], heads)


def are_expressions(trees, heads):
    return all([is_expression(tree, heads) for tree in trees])


def is_condition(tree, heads):
    if not isinstance(tree, tuple) or len(tree) == 0:
        return False
    parts = tree[1:]
    if tree[0] in ("less", "same"):
        return len(parts) == 2 and are_expressions(parts, heads)
    if tree[0] == "gone":
        return len(parts) == 1 and are_expressions(parts, heads)
    if tree[0] == "not" and len(parts) != 1:
        return False
    return tree[0] in ("and", "or", "not") and all([is_condition(part, heads) for part in parts])


def columns_named(tree):
    if not isinstance(tree, tuple):
        return []
    if tree[0] in CELL_HEADS:
        return [tree[1]]
    names = []
    for part in tree[1:]:
        names.extend(columns_named(part))
    return names


def combined(head, first, second):
    if not isinstance(first, int) or not isinstance(second, int):
        return None
    if head == "add":
        return first + second
    if first < second:
        return None
    return first - second


def value_of(expression, cells):
    if isinstance(expression, int):
        return expression
    head = expression[0]
    if head == "word":
        return expression[1]
    if head in CELL_HEADS:
        cell = cells[head][expression[1]]
        return None if cell == MISSING else cell
    return combined(head, value_of(expression[1], cells), value_of(expression[2], cells))


def compares(head, first, second):
    if head == "less":
        return isinstance(first, int) and isinstance(second, int) and first < second
    return first is not None and first == second


def is_so(condition, cells):
    # cells: for each head that stands for a cell, its row's cells by their columns' names.
    head = condition[0]
    parts = condition[1:]
    if head == "and":
        return all([is_so(part, cells) for part in parts])
    if head == "or":
        return any([is_so(part, cells) for part in parts])
    if head == "not":
        return not is_so(parts[0], cells)
    if head == "gone":
        return value_of(parts[0], cells) is None
    return compares(head, value_of(parts[0], cells), value_of(parts[1], cells))

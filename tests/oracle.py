"""What the document asks of found, support, still, keys, fixed, cover and follows, said a second time in another way.

Tables here: dict name -> (columns, rows); a column is (name, words or None, maybe); a missing cell is None.
"""

from itertools import combinations


def told_row(row):
    return "(" + " ".join("()" if cell is None else str(cell) for cell in row) + ")"


def told_table(name, columns, rows):
    parts = []
    for column, words, maybe in columns:
        kind = "(up 1000)" if words is None else "(of " + " ".join(words) + ")"
        parts.append(f"({column} {kind} maybe)" if maybe else f"({column} {kind})")
    return f"(table {name} ({' '.join(parts)}) {' '.join(told_row(row) for row in rows)})"


def alike(one, two, places):
    return all(one[p] == two[p] for p in places)


def is_key(rows, places):
    return not any(alike(one, two, places) for one, two in combinations(rows, 2))


def is_fixed(rows, places, d):
    return all(one[d] == two[d] for one, two in combinations(rows, 2) if alike(one, two, places))


def subsets(places, most):
    return [frozenset(c) for size in range(most + 1) for c in combinations(places, size)]


def least(sets, good):
    kept = []
    for chosen in sets:
        if good(chosen) and not any(smaller <= chosen for smaller in kept):
            kept.append(chosen)
    return kept


def keys_of(columns, rows):
    return least(subsets(range(len(columns)), 3), lambda chosen: is_key(rows, chosen))


def left_sides_of(columns, rows, d):
    others = [p for p in range(len(columns)) if p != d]
    return least(subsets(others, 2), lambda chosen: is_fixed(rows, chosen, d))


def single_claims(t, columns, rows):
    for p, (c, words, maybe) in enumerate(columns):
        if maybe and rows and all(row[p] is not None for row in rows):
            yield f"(each {t} (not (gone (col {c}))))", len(rows)
    for p, (c, words, maybe) in enumerate(columns):
        cells = [row[p] for row in rows if row[p] is not None]
        if words is None and cells:
            n, m = min(cells), max(cells)
            yield (f"(each {t} (or (gone (col {c})) (and (not (less (col {c}) {n})) (not (less {m} (col {c}))))))",
                   len(cells))
    for p, (c, words, maybe) in enumerate(columns):
        cells = [row[p] for row in rows if row[p] is not None]
        if words is not None and cells and set(cells) != set(words):
            same = " ".join(f"(same (col {c}) (word {w}))" for w in words if w in cells)
            yield f"(each {t} (or (gone (col {c})) {same}))", len(cells)


def below(t, c, d):
    return f"(each {t} (or (gone (col {c})) (gone (col {d})) (not (less (col {d}) (col {c})))))"


def order_claims(t, columns, rows):
    numbers = [p for p, column in enumerate(columns) if column[1] is None]
    whole = {p: [row[p] for row in rows if row[p] is not None] for p in numbers}
    for p, q in combinations(numbers, 2):
        c, d = columns[p][0], columns[q][0]
        both = [(row[p], row[q]) for row in rows if row[p] is not None and row[q] is not None]
        if not both:
            continue
        if all(x == y for x, y in both):
            yield f"(each {t} (or (gone (col {c})) (gone (col {d})) (same (col {c}) (col {d}))))", len(both)
        elif all(x <= y for x, y in both) and max(whole[p]) > min(whole[q]):
            yield below(t, c, d), len(both)
        elif all(y <= x for x, y in both) and max(whole[q]) > min(whole[p]):
            yield below(t, d, c), len(both)
    for p in numbers:
        c = columns[p][0]
        twos = [(x[p], y[p]) for x, y in zip(rows, rows[1:]) if x[p] is not None and y[p] is not None]
        if twos and all(x <= y for x, y in twos):
            yield f"(next {t} (or (gone (one {c})) (gone (two {c})) (not (less (two {c}) (one {c})))))", len(twos)


def named(columns, places):
    return " ".join(columns[p][0] for p in sorted(places))


def set_claims(t, columns, rows):
    keys = keys_of(columns, rows)
    for key in keys:
        yield f"(key {t} ({named(columns, key)}))", len(rows)
    for d, column in enumerate(columns):
        for side in left_sides_of(columns, rows, d):
            if not any(key <= side for key in keys):
                alone = [i for i, one in enumerate(rows)
                         if not any(alike(one, two, side) for j, two in enumerate(rows) if i != j)]
                yield f"(fixes {t} ({named(columns, side)}) ({column[0]}))", len(rows) - len(alone)


def refers_claims(t, tables):
    columns, rows = tables[t]
    for p, (c, words, maybe) in enumerate(columns):
        cells = [row[p] for row in rows if row[p] is not None]
        for u, (others, there) in tables.items():
            for q, (d, other_words, other_maybe) in enumerate(others):
                if u != t and cells and (words is None) == (other_words is None) and is_key(there, [q]):
                    if set(cells) <= {row[q] for row in there}:
                        yield f"(refers {t} ({c}) {u} ({d}))", len(cells)


def found(t, tables):
    columns, rows = tables[t]
    return [*single_claims(t, columns, rows), *order_claims(t, columns, rows), *set_claims(t, columns, rows),
            *refers_claims(t, tables)]


def fixed_columns(rows, columns, places):
    return [d for d in range(len(columns)) if is_fixed(rows, places, d)]


def sets_found(columns, rows):
    """The keys and fixed columns found, in order: (key or fixes, the columns on its left side, the fixed one)."""
    keys = keys_of(columns, rows)
    told = [("key", key, None) for key in keys]
    for d in range(len(columns)):
        told += [("fixes", side, d) for side in left_sides_of(columns, rows, d) if not any(key <= side for key in keys)]
    return told


def set_text(t, columns, claim):
    head, side, d = claim
    told = f"({head} {t} ({named(columns, side)})"
    return told + ")" if d is None else f"{told} ({columns[d][0]}))"


def breaks(claim, agreed):
    """Whether two rows that are alike in just these columns break a key or a fixed column."""
    head, side, d = claim
    return side <= agreed and d not in agreed


def follows(claim, others, count):
    """In whatever rows: no two rows, in whichever columns they're alike, break this claim and none of the others."""
    return all(any(breaks(other, agreed) for other in others)
               for agreed in subsets(range(count), count) if breaks(claim, agreed))


def cover(claims, count):
    kept = list(claims)
    for claim in claims[::-1]:
        rest = [other for other in kept if other is not claim]
        if follows(claim, rest, count):
            kept = rest
    return kept


def parsed(text):
    """A written tree, as lists in lists."""
    lists = [[]]
    for piece in text.replace("(", " ( ").replace(")", " ) ").split():
        if piece == "(":
            lists.append([])
        elif piece == ")":
            done = lists.pop()
            lists[-1].append(done)
        else:
            lists[-1].append(int(piece) if piece.isdigit() else piece)
    return lists[0][0]


def is_so(condition, cells):
    """A condition of the found ones; cells: a function from (head, column) to the cell."""
    head, parts = condition[0], condition[1:]
    if head == "or":
        return any(is_so(part, cells) for part in parts)
    if head == "and":
        return all(is_so(part, cells) for part in parts)
    if head == "not":
        return not is_so(parts[0], cells)
    values = [part if isinstance(part, int) else part[1] if part[0] == "word" else cells(*part) for part in parts]
    if head == "gone":
        return values[0] is None
    if None in values:
        return False
    return values[0] < values[1] if head == "less" else values[0] == values[1]


def holds(text, tables):
    """Whether a claim of the found ones holds."""
    claim = parsed(text)
    columns, rows = tables[claim[1]]
    place = {column[0]: p for p, column in enumerate(columns)}
    if claim[0] == "each":
        return all(is_so(claim[2], lambda head, c: row[place[c]]) for row in rows)
    if claim[0] == "next":
        return all(is_so(claim[2], lambda head, c: {"one": one, "two": two}[head][place[c]])
                   for one, two in zip(rows, rows[1:]))
    places = [place[c] for c in claim[2]]
    if claim[0] == "key":
        return is_key(rows, places)
    if claim[0] == "fixes":
        return is_fixed(rows, places, place[claim[3][0]])
    others, there = tables[claim[3]]
    q = [column[0] for column in others].index(claim[4][0])
    return {row[places[0]] for row in rows} - {None} <= {row[q] for row in there}


def still(t, tables, rows):
    instead = {**tables, t: (tables[t][0], rows)}
    return [k for k, (text, count) in enumerate(found(t, tables)) if holds(text, instead)]

"""Point 9, and point 4 once more: what holds whatever the tables, on many made-up tables."""

import random
import re
import unittest
from itertools import combinations

from tests import oracle
from tests.lines import found, holds, last, run, support, table, text_of, told

WORDS = ["x", "y", "z", "q"]


def made_column(source, name):
    if source.random() < 0.6:
        return name, None, source.random() < 0.4
    return name, WORDS[:source.randint(1, 4)], source.random() < 0.4


def made_cell(source, column, most):
    if column[2] and source.random() < 0.15:
        return None
    return source.randint(0, most) if column[1] is None else source.choice(column[1])


def made_tables(seed):
    source = random.Random(seed)
    tables = {}
    for name in ["t", "u", "v"][:source.randint(1, 3)]:
        columns = [made_column(source, letter) for letter in "abcdef"[:source.randint(1, 6)]]
        most = source.choice([1, 2, 3, 9])
        rows = [[made_cell(source, column, most) for column in columns]
                for count in range(source.choice([0, 1, 2, 3, 4, 5, 8, 12, 40]))]
        if len(rows) > 3 and source.random() < 0.5:
            rows.sort(key=lambda row: -1 if row[0] is None else (row[0] if columns[0][1] is None else 0))
        if len(columns) > 2 and source.random() < 0.5:
            # Now and then a column is made from another one, so that more is found.
            columns[2] = ("c", columns[0][1], columns[0][2])
            for row in rows:
                row[2] = row[0] if columns[0][1] or row[0] is None else row[0] + source.choice([0, 0, 1])
        tables[name] = (columns, rows)
    return tables


def calls_for(tables):
    return [table(oracle.told_table(name, columns, rows)) for name, (columns, rows) in tables.items()]


def fixed_by(places, count, keys, fixes):
    """What's fixed by some columns, by the keys and fixed columns."""
    fixed = set(places)
    grows = True
    while grows:
        more = {d for side, d in fixes if side <= fixed}
        if any(key <= fixed for key in keys):
            more |= set(range(count))
        grows = not more <= fixed
        fixed |= more
    return fixed


def read_sets(text, columns):
    """The keys and fixed columns among found claims, as sets of columns' numbers."""
    place = {column[0]: p for p, column in enumerate(columns)}

    def places(names):
        return frozenset(place[name] for name in names.split())

    keys = [places(names) for names in re.findall(r"\(key \w+ \(([^()]*)\)\)", text)]
    fixes = [(places(names), place[d]) for names, d in re.findall(r"\(fixes \w+ \(([^()]*)\) \((\w+)\)\)", text)]
    return keys, fixes


class Whatever(unittest.TestCase):
    def test_found_told_and_support_are_as_said(self):
        for seed in range(400):
            tables = made_tables(seed)
            calls = calls_for(tables)
            for name in tables:
                wanted = oracle.found(name, tables)
                answer = last(*calls, found(name))
                self.assertEqual(answer[0], len(wanted), seed)
                self.assertEqual(text_of(answer[1:]), " ".join(text for text, rows in wanted), seed)
                for k in range(0, len(wanted), 7):
                    answered = run(*calls, told(k, name), support(k, name))[len(calls):]
                    self.assertEqual((text_of(answered[0]), answered[1]), (wanted[k][0], [wanted[k][1]]), seed)

    def test_what_is_found_holds(self):
        for seed in range(150):
            tables = made_tables(seed)
            calls = calls_for(tables)
            for name in tables:
                texts = [text for text, rows in oracle.found(name, tables)]
                self.assertEqual(text_of(last(*calls, found(name))[1:]), " ".join(texts))
                for start in range(0, len(texts), 30):
                    part = texts[start:start + 30]
                    answered = run(*calls, *[holds(text) for text in part])[len(calls):]
                    self.assertEqual(answered, [[1, 0]] * len(part), seed)

    def test_the_longest_found_claim_may_be_asked_about(self):
        words = [letter * 20 for letter in "abcdefghij"]
        rows = " ".join(f"({word})" for word in words[:9])
        call = table(f"(table {'t' * 20} (({'c' * 20} (of {' '.join(words)}))) {rows})")
        text = text_of(last(call, told(0, "t" * 20)))
        self.assertGreater(len(text), 600)
        self.assertEqual(last(call, holds(text)), [1, 0])

    def test_keys_and_fixed_columns(self):
        for seed in range(150):
            tables = made_tables(seed)
            for name, (columns, rows) in tables.items():
                answer = last(*calls_for(tables), found(name))
                keys, fixes = read_sets(text_of(answer[1:]), columns)
                places = range(len(columns))
                for chosen in oracle.subsets(places, 3):
                    if oracle.is_key(rows, chosen):
                        self.assertTrue(any(key <= chosen for key in keys), seed)
                for d in places:
                    for chosen in oracle.subsets([p for p in places if p != d], 2):
                        if oracle.is_fixed(rows, chosen, d):
                            self.assertIn(d, fixed_by(chosen, len(columns), keys, fixes), seed)

    def test_ranges_are_as_narrow_as_may_be(self):
        for seed in range(150):
            tables = made_tables(seed)
            calls = calls_for(tables)
            for name, (columns, rows) in tables.items():
                text = text_of(last(*calls, found(name))[1:])
                for p, (c, words, maybe) in enumerate(columns):
                    cells = [row[p] for row in rows if row[p] is not None]
                    if words is None and cells:
                        low = f"(not (less (col {c}) {min(cells)}))"
                        high = f"(not (less {max(cells)} (col {c})))"
                        self.assertIn(f"(each {name} (or (gone (col {c})) (and {low} {high})))", text, seed)
                        narrower = [f"(each {name} (or (gone (col {c})) (less {min(cells)} (col {c}))))",
                                    f"(each {name} (or (gone (col {c})) (less (col {c}) {max(cells)})))"]
                        for answer in run(*calls, *[holds(claim) for claim in narrower])[len(calls):]:
                            self.assertEqual(answer[0], 0, seed)


class Fixing(unittest.TestCase):
    def test_read_sets(self):
        columns = [("a", None, False), ("b", None, False), ("c", None, False)]
        keys, fixes = read_sets("(key t (a c)) (key t ()) (fixes t () (b)) (fixes t (a b) (c))", columns)
        self.assertEqual(keys, [frozenset({0, 2}), frozenset()])
        self.assertEqual(fixes, [(frozenset(), 1), (frozenset({0, 1}), 2)])

    def test_made_tables_bring_all_sorts(self):
        """Else the tests above would say less than they seem to."""
        sorts = {"(each t (not": 0, "(and (not (less": 0, "(word": 0, "(same (col a) (col": 0, "(less (col c) (col a)": 0,
                 "(less (col a) (col": 0, "(next": 0, "(key t ())": 0, "(key t (a))": 0, "(key t (a b))": 0,
                 "(key t (a b c))": 0, "(fixes t ()": 0, "(fixes t (a)": 0, "(fixes t (a b)": 0, "(refers t": 0}
        for seed in range(400):
            tables = made_tables(seed)
            texts = [text for text, rows in oracle.found("t", tables)]
            for sort, text in [(s, t) for s in sorts for t in texts]:
                sorts[sort] += sort in text
        self.assertGreater(min(sorts.values()), 3, sorts)


class Breaking(unittest.TestCase):
    """Key, fixes and groups, counted in another way."""

    def test_counts(self):
        for seed in range(100):
            tables = made_tables(seed)
            calls = calls_for(tables)
            columns, rows = tables["t"]
            for chosen in list(oracle.subsets(range(len(columns)), 2))[:8]:
                names = oracle.named(columns, chosen)
                twos = [two for two in combinations(rows, 2) if oracle.alike(*two, chosen)]
                parted = [two for two in twos if two[0][0] != two[1][0]]
                groups = {}
                for row in rows:
                    groups.setdefault(tuple(row[p] for p in sorted(chosen)), []).append(row)
                alone = [group for group in groups.values() if len(group) < 2]
                asked = [holds(f"(key t ({names}))"), holds(f"(fixes t ({names}) (a))"),
                         holds(f"(groups t ({names}) (count) 2 40)")]
                wanted = [[0 if sets else 1, len(sets)] for sets in (twos, parted, alone)]
                self.assertEqual(run(*calls, *asked)[len(calls):], wanted, seed)

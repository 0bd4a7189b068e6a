"""Point 9, and points 4 to 8 once more: what holds whatever the tables, on many made-up tables."""

import random
import re
import unittest
from itertools import combinations

from tests import oracle
from tests.lines import cover, fixed, follows, found, holds, keys, last, run, still, support, table, text_of, told

WORDS = ["x", "y", "z", "q"]


def made_column(source, name):
    if source.random() < 0.6:
        return name, None, source.random() < 0.4
    return name, WORDS[:source.randint(1, 4)], source.random() < 0.4


def made_cell(source, column, most):
    if column[2] and source.random() < 0.15:
        return None
    return source.randint(0, most) if column[1] is None else source.choice(column[1])


def made_tables(seed):
    source = random.Random(seed)
    tables = {}
    for name in ["t", "u", "v"][:source.randint(1, 3)]:
        columns = [made_column(source, letter) for letter in "abcdef"[:source.randint(1, 6)]]
        most = source.choice([1, 2, 3, 9])
        rows = [[made_cell(source, column, most) for column in columns]
                for count in range(source.choice([0, 1, 2, 3, 4, 5, 8, 12, 40]))]
        if len(rows) > 3 and source.random() < 0.5:
            rows.sort(key=lambda row: -1 if row[0] is None else (row[0] if columns[0][1] is None else 0))
        if len(columns) > 2 and source.random() < 0.5:
            # Now and then a column is made from another one, so that more is found.
            columns[2] = ("c", columns[0][1], columns[0][2])
            for row in rows:
                row[2] = row[0] if columns[0][1] or row[0] is None else row[0] + source.choice([0, 0, 1])
        tables[name] = (columns, rows)
    return tables


def calls_for(tables):
    return [table(oracle.told_table(name, columns, rows)) for name, (columns, rows) in tables.items()]


def other_rows(source, columns, rows):
    """Other rows for a table, near enough to its own ones that some claims hold and some don't."""
    drawn = [list(row) for row in rows if source.random() < 0.7]
    sort = source.randrange(5)
    if sort == 0:
        source.shuffle(drawn)
    if sort in (1, 2) and drawn:
        for count in range(sort):
            p = source.randrange(len(columns))
            source.choice(drawn)[p] = made_cell(source, columns[p], 9)
    if sort == 3:
        drawn += [[made_cell(source, column, 9) for column in columns]]
    if sort == 4 and drawn:
        drawn.insert(source.randrange(len(drawn)), list(source.choice(drawn)))
    return drawn[:40]


def two_cells(column):
    """Two cells that a column may have, another if there is one."""
    if column[1] is None:
        return 0, 1
    return column[1][0], column[1][-1] if len(column[1]) > 1 or not column[2] else None


def two_rows(columns, agreed):
    """Two rows that are alike in these columns, and in no others if that may be."""
    cells = [two_cells(column) for column in columns]
    one = [cell for cell, other in cells]
    two = [one[p] if p in agreed else cells[p][1] for p in range(len(columns))]
    return [one, two]


def told_rows(drawn):
    return " ".join(oracle.told_row(row) for row in drawn)


def in_parts(calls, asked):
    """The answers of what's asked behind the calls, however much that is."""
    answered = []
    for start in range(0, len(asked), 30):
        answered += run(*calls, *asked[start:start + 30])[len(calls):]
    return answered


def fixed_by(places, count, keys, fixes):
    """What's fixed by some columns, by the keys and fixed columns."""
    fixed = set(places)
    grows = True
    while grows:
        more = {d for side, d in fixes if side <= fixed}
        if any(key <= fixed for key in keys):
            more |= set(range(count))
        grows = not more <= fixed
        fixed |= more
    return fixed


def read_sets(text, columns):
    """The keys and fixed columns among found claims, as sets of columns' numbers."""
    place = {column[0]: p for p, column in enumerate(columns)}

    def places(names):
        return frozenset(place[name] for name in names.split())

    keys = [places(names) for names in re.findall(r"\(key \w+ \(([^()]*)\)\)", text)]
    fixes = [(places(names), place[d]) for names, d in re.findall(r"\(fixes \w+ \(([^()]*)\) \((\w+)\)\)", text)]
    return keys, fixes


class Whatever(unittest.TestCase):
    def test_found_told_and_support_are_as_said(self):
        for seed in range(400):
            tables = made_tables(seed)
            calls = calls_for(tables)
            for name in tables:
                wanted = oracle.found(name, tables)
                answer = last(*calls, found(name))
                self.assertEqual(answer[0], len(wanted), seed)
                self.assertEqual(text_of(answer[1:]), " ".join(text for text, rows in wanted), seed)
                for k in range(0, len(wanted), 7):
                    answered = run(*calls, told(k, name), support(k, name))[len(calls):]
                    self.assertEqual((text_of(answered[0]), answered[1]), (wanted[k][0], [wanted[k][1]]), seed)

    def test_what_is_found_holds(self):
        for seed in range(150):
            tables = made_tables(seed)
            calls = calls_for(tables)
            for name in tables:
                texts = [text for text, rows in oracle.found(name, tables)]
                self.assertEqual(text_of(last(*calls, found(name))[1:]), " ".join(texts))
                for start in range(0, len(texts), 30):
                    part = texts[start:start + 30]
                    answered = run(*calls, *[holds(text) for text in part])[len(calls):]
                    self.assertEqual(answered, [[1, 0]] * len(part), seed)

    def test_the_longest_found_claim_may_be_asked_about(self):
        words = [letter * 20 for letter in "abcdefghij"]
        rows = " ".join(f"({word})" for word in words[:9])
        call = table(f"(table {'t' * 20} (({'c' * 20} (of {' '.join(words)}))) {rows})")
        text = text_of(last(call, told(0, "t" * 20)))
        self.assertGreater(len(text), 600)
        self.assertEqual(last(call, holds(text)), [1, 0])

    def test_keys_and_fixed_columns(self):
        for seed in range(150):
            tables = made_tables(seed)
            for name, (columns, rows) in tables.items():
                answer = last(*calls_for(tables), found(name))
                keys, fixes = read_sets(text_of(answer[1:]), columns)
                places = range(len(columns))
                for chosen in oracle.subsets(places, 3):
                    if oracle.is_key(rows, chosen):
                        self.assertTrue(any(key <= chosen for key in keys), seed)
                for d in places:
                    for chosen in oracle.subsets([p for p in places if p != d], 2):
                        if oracle.is_fixed(rows, chosen, d):
                            self.assertIn(d, fixed_by(chosen, len(columns), keys, fixes), seed)

    def test_ranges_are_as_narrow_as_may_be(self):
        for seed in range(150):
            tables = made_tables(seed)
            calls = calls_for(tables)
            for name, (columns, rows) in tables.items():
                text = text_of(last(*calls, found(name))[1:])
                for p, (c, words, maybe) in enumerate(columns):
                    cells = [row[p] for row in rows if row[p] is not None]
                    if words is None and cells:
                        low = f"(not (less (col {c}) {min(cells)}))"
                        high = f"(not (less {max(cells)} (col {c})))"
                        self.assertIn(f"(each {name} (or (gone (col {c})) (and {low} {high})))", text, seed)
                        narrower = [f"(each {name} (or (gone (col {c})) (less {min(cells)} (col {c}))))",
                                    f"(each {name} (or (gone (col {c})) (less (col {c}) {max(cells)})))"]
                        for answer in run(*calls, *[holds(claim) for claim in narrower])[len(calls):]:
                            self.assertEqual(answer[0], 0, seed)


class Cover(unittest.TestCase):
    def test_cover_and_follows_are_as_said(self):
        for seed in range(200):
            tables = made_tables(seed)
            calls = calls_for(tables)
            for name, (columns, rows) in tables.items():
                claims = oracle.sets_found(columns, rows)
                wanted = [oracle.set_text(name, columns, claim) for claim in oracle.cover(claims, len(columns))]
                answer = last(*calls, cover(name))
                self.assertEqual((answer[0], text_of(answer[1:])), (len(wanted), " ".join(wanted)), seed)
                texts = [text for text, support in oracle.found(name, tables)]
                numbers = [texts.index(oracle.set_text(name, columns, claim)) for claim in claims]
                answered = in_parts(calls, [follows(k, name) for k in range(len(texts) + 1)])
                self.assertEqual(answered.pop(), [-4], seed)
                for k, claim in zip(numbers, claims):
                    rest = [other for other in claims if other is not claim]
                    self.assertEqual(answered[k], [int(oracle.follows(claim, rest, len(columns)))], (seed, texts[k]))
                for k in set(range(len(texts))) - set(numbers):
                    self.assertEqual(answered[k], [-6], (seed, texts[k]))

    def test_all_follows_from_the_cover_and_none_of_it_from_the_rest(self):
        for seed in range(200):
            tables = made_tables(seed)
            for name, (columns, rows) in tables.items():
                answered = run(*calls_for(tables), found(name), cover(name))
                found_keys, found_fixes = read_sets(text_of(answered[-2][1:]), columns)
                kept_keys, kept_fixes = read_sets(text_of(answered[-1][1:]), columns)
                self.assertEqual(len(kept_keys) + len(kept_fixes), answered[-1][0])
                self.assertEqual(kept_keys, [key for key in found_keys if key in kept_keys])
                self.assertEqual(kept_fixes, [two for two in found_fixes if two in kept_fixes])
                self.assert_all_follows(len(columns), found_keys, found_fixes, kept_keys, kept_fixes)
                self.assert_none_follows(len(columns), kept_keys, kept_fixes)

    def assert_all_follows(self, count, found_keys, found_fixes, kept_keys, kept_fixes):
        for key in found_keys:
            by_it = fixed_by(key, count, kept_keys, kept_fixes)
            self.assertTrue(any(kept <= by_it for kept in kept_keys))
        for side, d in found_fixes:
            self.assertIn(d, fixed_by(side, count, kept_keys, kept_fixes))

    def assert_none_follows(self, count, kept_keys, kept_fixes):
        for key in kept_keys:
            others = [other for other in kept_keys if other != key]
            by_it = fixed_by(key, count, others, kept_fixes)
            self.assertFalse(any(other <= by_it for other in others))
        for side, d in kept_fixes:
            others = [other for other in kept_fixes if other != (side, d)]
            self.assertNotIn(d, fixed_by(side, count, kept_keys, others))

    def test_the_cover_implies_all_in_whatever_rows(self):
        """Keys and fixed columns are broken by two rows each: so with all twos of rows all rows are looked at."""
        broken = 0
        for seed in range(60):
            tables = made_tables(seed)
            calls = calls_for(tables)
            for name, (columns, rows) in tables.items():
                texts = [text for text, support in oracle.found(name, tables)]
                kept = text_of(last(*calls, cover(name))[1:])
                sets = [k for k, text in enumerate(texts) if text.startswith(("(key", "(fixes"))]
                in_cover = [k for k in sets if texts[k] in kept]
                twos = [told_rows(two_rows(columns, agreed))
                        for agreed in oracle.subsets(range(len(columns)), len(columns))]
                for answer in in_parts(calls, [still(name, two) for two in twos]):
                    if set(in_cover) <= set(answer[1:]):
                        self.assertLessEqual(set(sets), set(answer[1:]), seed)
                    else:
                        broken += 1
        self.assertGreater(broken, 100)


class Others(unittest.TestCase):
    def test_keys_are_as_said(self):
        for seed in range(200):
            tables = made_tables(seed)
            for name, (columns, rows) in tables.items():
                wanted = [sorted(key) for key in oracle.keys_of(columns, rows)]
                told_keys = [number for key in wanted for number in (len(key), *key)]
                self.assertEqual(last(*calls_for(tables), keys(name)), [len(wanted), *told_keys], seed)

    def test_fixed_is_as_said(self):
        for seed in range(150):
            tables = made_tables(seed)
            source = random.Random(seed)
            for name, (columns, rows) in tables.items():
                sets = oracle.subsets(range(len(columns)), len(columns))
                drawn = source.sample(sets, min(len(sets), 12))
                asked = []
                for chosen in drawn:
                    names = [columns[p][0] for p in chosen]
                    source.shuffle(names)
                    asked.append(fixed(name, " ".join(names)))
                wanted = [oracle.fixed_columns(rows, columns, chosen) for chosen in drawn]
                self.assertEqual(in_parts(calls_for(tables), asked), [[len(told), *told] for told in wanted], seed)

    def test_still_is_as_said(self):
        lost = {}
        for seed in range(250):
            tables = made_tables(seed)
            calls = calls_for(tables)
            source = random.Random(seed)
            for name, (columns, rows) in tables.items():
                drawn = [other_rows(source, columns, rows) for count in range(4)]
                answered = run(*calls, *[still(name, told_rows(other)) for other in drawn], found(name))[len(calls):]
                texts = [text for text, support in oracle.found(name, tables)]
                self.assertEqual(text_of(answered.pop()[1:]), " ".join(texts), seed)
                for other, answer in zip(drawn, answered):
                    wanted = oracle.still(name, tables, other)
                    self.assertEqual(answer, [len(wanted), *wanted], (seed, other))
                    for k in set(range(len(texts))) - set(wanted):
                        head = texts[k].split()[0]
                        lost[head] = lost.get(head, 0) + 1
        self.assertEqual(set(lost), {"(each", "(next", "(key", "(fixes", "(refers"})
        self.assertGreater(min(lost.values()), 20, lost)

    def test_still_is_holds_with_these_rows(self):
        for seed in range(60):
            tables = made_tables(seed)
            calls = calls_for(tables)
            source = random.Random(seed + 1000)
            for name, (columns, rows) in tables.items():
                other = other_rows(source, columns, rows)
                texts = [text for text, support in oracle.found(name, tables)]
                instead = calls_for({**tables, name: (columns, other)})
                answered = in_parts(instead, [holds(text) for text in texts])
                wanted = [k for k, answer in enumerate(answered) if answer[0] == 1]
                self.assertEqual(last(*calls, still(name, told_rows(other))), [len(wanted), *wanted], seed)


class Fixing(unittest.TestCase):
    def test_read_sets(self):
        columns = [("a", None, False), ("b", None, False), ("c", None, False)]
        keys, fixes = read_sets("(key t (a c)) (key t ()) (fixes t () (b)) (fixes t (a b) (c))", columns)
        self.assertEqual(keys, [frozenset({0, 2}), frozenset()])
        self.assertEqual(fixes, [(frozenset(), 1), (frozenset({0, 1}), 2)])

    def test_made_tables_bring_all_sorts(self):
        """Else the tests above would say less than they seem to."""
        sorts = {"(each t (not": 0, "(and (not (less": 0, "(word": 0, "(same (col a) (col": 0, "(less (col c) (col a)": 0,
                 "(less (col a) (col": 0, "(next": 0, "(key t ())": 0, "(key t (a))": 0, "(key t (a b))": 0,
                 "(key t (a b c))": 0, "(fixes t ()": 0, "(fixes t (a)": 0, "(fixes t (a b)": 0, "(refers t": 0}
        for seed in range(400):
            tables = made_tables(seed)
            texts = [text for text, rows in oracle.found("t", tables)]
            for sort, text in [(s, t) for s in sorts for t in texts]:
                sorts[sort] += sort in text
        self.assertGreater(min(sorts.values()), 3, sorts)


class Breaking(unittest.TestCase):
    """Key, fixes and groups, counted in another way."""

    def test_counts(self):
        for seed in range(100):
            tables = made_tables(seed)
            calls = calls_for(tables)
            columns, rows = tables["t"]
            for chosen in list(oracle.subsets(range(len(columns)), 2))[:8]:
                names = oracle.named(columns, chosen)
                twos = [two for two in combinations(rows, 2) if oracle.alike(*two, chosen)]
                parted = [two for two in twos if two[0][0] != two[1][0]]
                groups = {}
                for row in rows:
                    groups.setdefault(tuple(row[p] for p in sorted(chosen)), []).append(row)
                alone = [group for group in groups.values() if len(group) < 2]
                asked = [holds(f"(key t ({names}))"), holds(f"(fixes t ({names}) (a))"),
                         holds(f"(groups t ({names}) (count) 2 40)")]
                wanted = [[0 if sets else 1, len(sets)] for sets in (twos, parted, alone)]
                self.assertEqual(run(*calls, *asked)[len(calls):], wanted, seed)

"""Point 16: the parts that codes reduce to, and the conditions and the codes that they are made of."""

import itertools
import random
import unittest

from leftfirst import shapes
from leftfirst.codes import code, is_code, joined, turned
from leftfirst.conditions import is_condition, tests
from leftfirst.errors import TooLarge
from leftfirst.forms import basic, factors, normal
from leftfirst.shapes import condition_of, factor_codes, parts, plain, plain_parts, shaped
from leftfirst.texts import read, write
from tests.checks import kinds
from tests.samples import A, B, all_codes, bounds, chain, code_of_tree, flat, random_code, random_conditions
from tests.samples import small_conditions, steady_trees

ONE = (("a", 1, 2), ("b", "yes", 2), ("c", "yes", "no"))
TWO = (("a", 1, 2), ("b", "yes", "no"), ("c", "yes", "no"))
THREE = (("a", 1, 4), ("b", 2, 3), ("d", "yes", "no"), ("e", "yes", "no"), ("c", 2, 5), ("f", "no", "yes"))
# Codes of no condition, of any size.
NONE = [(("a", "yes", "yes"),), (("a", "no", "no"),), (("a", 1, "no"), ("b", "yes", "yes")),
        (("a", 1, "no"), ("b", "no", "no")),
        (("a", 1, 2), ("b", "yes", "no"), ("c", "no", "no")), (("a", 1, 1), ("b", 2, "yes"), ("c", "yes", "yes"))]


def steps(left, both):
    """All steps that are possible, each as the parts that are left after it; left is a dict of pairs of targets."""
    found = []

    def alone(v, u):
        return v in left and v != 0 and all(v not in targets for w, targets in left.items() if w != u)

    for u, (yes, no) in left.items():
        for v, other in ((yes, no), (no, yes)):
            if alone(v, u) and len({*left[v]}) == 2 and other in left[v]:
                found.append({**{w: targets for w, targets in left.items() if w != v}, u: left[v]})
        if both and yes != no and alone(yes, u) and alone(no, u) and {*left[yes]} == {*left[no]} and len({*left[yes]}) == 2:
            found.append({**{w: targets for w, targets in left.items() if w not in (yes, no)}, u: left[yes]})
    return found


def reduced(rows, both, source):
    """The parts that are left if steps are taken as a random.Random likes."""
    left = {at: (yes, no) for at, (_, yes, no) in enumerate(rows)}
    found = steps(left, both)
    while found:
        left = source.choice(found)
        found = steps(left, both)
    return left


def all_conditions(number, letters, with_if):
    """All conditions with so many tests, with nots before tests only, no and in an and and no or in an or."""
    if number == 1:
        for name in letters:
            yield from [("test", name), ("not", ("test", name))]
    for kind in ("and", "or"):
        for sizes in [[1] * number, *[[k, number - k] for k in range(1, number)]] if number > 1 else []:
            yield from [(kind, *members) for members in
                        itertools.product(*[[*all_conditions(size, letters, with_if)] for size in sizes])]
    for first, second in itertools.combinations(range(1, number), 2) if with_if else []:
        sizes = [first, second - first, number - second]
        yield from [("if", *members) for members in
                    itertools.product(*[[*all_conditions(size, letters, with_if)] for size in sizes])]


def sample_codes():
    """Codes of conditions with and without if, other codes, and such with 60 rows."""
    found = [ONE, TWO, THREE, *NONE, chain(60), chain(8)]
    found += [code(condition) for condition in small_conditions()[:2400:23]]
    found += [code(condition) for condition in [*random_conditions(80, 60, "abcdefgh"),
                                                *random_conditions(80, 60, "abc", False)]]
    found += [code_of_tree(tree) for tree in steady_trees("abc")[2::301]]
    source = random.Random(12)
    found += [random_code(source, number) for number in (4, 6, 8, 10, 15) for _ in range(25)]
    found += [random_code(source, 60) for _ in range(3)]
    return found


class Examples(unittest.TestCase):
    def test_examples(self):
        found = [write(plain(ONE)), plain(TWO), len(tests(shaped(TWO))), shaped(THREE), parts(THREE)]
        self.assertEqual(found, ["a and b or c", None, 3, None, 6])


class Parts(unittest.TestCase):
    def test_steps_in_several_orders(self):
        source = random.Random(13)
        for rows in sample_codes():
            both = {len(reduced(rows, True, source)) for _ in range(2 if len(rows) > 20 else 6)}
            first = {len(reduced(rows, False, source)) for _ in range(2 if len(rows) > 20 else 6)}
            self.assertEqual([len(both), len(first)], [1, 1])
            self.assertEqual((parts(rows), plain_parts(rows)), (*both, *first))

    def test_small_codes(self):
        source = random.Random(14)
        for names in ("a", "ab", "aba"):
            for rows in all_codes(len(names), names):
                self.assertEqual(parts(rows), len(reduced(rows, True, source)))
                self.assertEqual(plain_parts(rows), len(reduced(rows, False, source)))

    def test_numbers(self):
        for rows, both, first in [(ONE, 1, 1), (TWO, 1, 3), (THREE, 6, 6), (code(A), 1, 1),
                                  ((("a", "no", "no"),), 1, 1),
                                  (code(read("b if a else b")), 2, 2), (code(read("a and b or not a")), 1, 1),
                                  (code(read("(b if a else c) and d")), 1, 4),
                                  (code(read("b and (c if a else d)")), 1, 4),
                                  (code(read("a and (b or c) or (c if b else d)")), 1, 4), (chain(60), 1, 1),
                                  (code(read("(a or b) and c if d else (a or b) and c")), 2, 2)]:
            self.assertEqual((parts(rows), plain_parts(rows)), (both, first), rows)

    def test_a_part_that_is_reached_from_several_parts_stays(self):
        rows = (("a", 1, 3), ("b", 2, "no"), ("c", "yes", "no"), ("d", 2, "yes"))
        self.assertEqual([parts(rows), plain_parts(rows), shaped(rows), plain(rows)], [4, 4, None, None])

    def test_equal_targets_of_the_second_sort_in_either_order(self):
        for yes, no in [("yes", "no"), ("no", "yes")]:
            rows = (("a", 1, 2), ("b", "yes", "no"), ("c", yes, no))
            self.assertEqual([parts(rows), plain_parts(rows)], [1, 3])

    def test_parts_with_one_target_only(self):
        self.assertEqual(parts((("a", 1, "no"), ("b", "no", "no"))), 2)
        self.assertEqual(parts((("a", 1, 2), ("b", "no", "no"), ("c", "no", "no"))), 3)
        self.assertEqual(parts((("a", 1, 1), ("b", 2, 2), ("c", "yes", "no"))), 3)
        self.assertEqual(parts((("a", 1, 2), ("b", "yes", "no"), ("c", "no", "no"))), 3)


class Shaped(unittest.TestCase):
    def check(self, rows):
        """Check the condition that is as large as the code, and return it."""
        found = shaped(rows)
        left = reduced(rows, True, random.Random(15))
        if len(left) > 1 or left[0][0] == left[0][1]:
            self.assertIsNone(found)
        else:
            self.assertIs(is_condition(found), True)
            self.assertEqual(kinds(found), {tuple, str})
            self.assertEqual(len(tests(found)), len(rows))
            self.assertEqual(code(found), rows)
        return found

    def test_sample_codes(self):
        found = [self.check(rows) for rows in sample_codes()]
        self.assertGreater(len(found) - found.count(None), 100)
        self.assertGreater(found.count(None), 100)

    def test_all_small_codes_against_all_conditions(self):
        for names in ("a", "aa", "ab", "aaa", "abc", "aba"):
            own = {code(condition) for condition in all_conditions(len(names), sorted({*names}), True)}
            plain_own = {code(condition) for condition in all_conditions(len(names), sorted({*names}), False)}
            for rows in all_codes(len(names), names):
                self.assertEqual(self.check(rows) is not None, rows in own, rows)
                self.assertEqual(plain(rows) is not None, rows in plain_own, rows)

    def test_conditions_in_which_no_test_is_repeated(self):
        for text in ["a", "not a", "b if a else c", "not b if a else c", "b if a else not c", "not (b if a else c)",
                     "(b if a else c) and d",
                     "(b if a else c) or not d", "c if a and b else d or e", "d and (b if a else c) or e",
                     "(c if b else d) if a else e if f else g", "not (a and (c if b else not (d or e))) or f",
                     "a if (c if b else d) else e", "a if not (c if b else d) else e and f"]:
            self.assertIsNotNone(self.check(code(read(text))))

    def test_as_many_tests_as_rows(self):
        for condition in [*random_conditions(200, 60, "abcdefgh", seed=21),
                          *[condition for condition, _ in bounds().values()]]:
            found = self.check(code(condition))
            self.assertEqual(found is not None, parts(code(condition)) == 1)
            if len(tests(condition)) == len(code(condition)):
                self.assertIsNotNone(found)

    def test_nots_before_tests_only(self):
        condition = ("not", flat("and", "a" * 60))
        for _ in range(10):
            self.assertIsNotNone(self.check(code(condition)))
            condition = ("not", condition)
        deep = A
        for k in range(59):
            deep = (("and", "or")[k % 2], B, deep) if k % 3 else ("not", (("and", "or")[k % 2], deep, B))
        self.assertEqual(len(tests(deep)), 60)
        found = repr(self.check(code(deep)))
        for kind in ("not", "and", "or", "if"):
            self.assertNotIn(f"('not', ('{kind}'", found)

    def test_sixty_rows(self):
        self.assertEqual(self.check(chain(60)), flat("and", ["abcdefgh"[k % 8] for k in range(60)]))
        self.assertEqual(len(tests(self.check(turned(chain(60))))), 60)
        large = [code(condition) for condition in random_conditions(300, 60, "abcdefgh", seed=24)]
        large = [rows for rows in large if len(rows) > 54 and plain(rows) is None]
        self.assertGreater(len(large), 10)
        self.assertGreater(len([rows for rows in large if self.check(rows) is not None]), 5)


class Plain(unittest.TestCase):
    def check(self, rows):
        """Check the normal form whose code this is, and return it."""
        found = plain(rows)
        left = reduced(rows, False, random.Random(16))
        if len(left) > 1 or left[0][0] == left[0][1]:
            self.assertIsNone(found)
        else:
            self.assertEqual(found, normal(found))
            self.assertEqual(code(found), rows)
        return found

    def test_sample_codes(self):
        found = [self.check(rows) for rows in sample_codes()]
        self.assertGreater(len(found) - found.count(None), 50)
        self.assertGreater(found.count(None), 100)

    def test_the_normal_form_of_every_condition_without_if(self):
        conditions = [condition for condition in small_conditions() if "'if'" not in repr(condition)]
        for condition in [*conditions[::3], *random_conditions(200, 60, "ab", False)]:
            self.assertEqual(plain(code(condition)), normal(condition))
            self.assertEqual(plain_parts(code(condition)), 1)

    def test_conditions_with_if(self):
        for condition in random_conditions(200, 7, "ab"):
            rows = code(condition)
            found = self.check(rows)
            if found is not None:
                self.assertEqual(found, normal(found))
        self.assertEqual(plain(code(read("c if a else b and c"))), read("(a or b) and c"))
        self.assertEqual(plain(code(read("a if a else b and a"))), read("(a or b) and a"))
        self.assertIsNone(plain(code(read("b if a else c"))))


class FactorCodes(unittest.TestCase):
    def check(self, rows, kind):
        """Check the factors, and return them."""
        found = factor_codes(rows, kind)
        self.assertIs(type(found), list)
        for factor in found:
            self.assertIs(is_code(factor), True)
            self.assertTrue(all(yes != no or isinstance(yes, int) for _, yes, no in factor))
            self.assertEqual(factor_codes(factor, kind), [factor])
        together = found[0]
        for factor in found[1:]:
            together = joined(kind, together, factor)
        self.assertEqual(together, rows)
        return found

    def test_sample_codes(self):
        for rows in sample_codes():
            if any(yes == no and isinstance(yes, str) for _, yes, no in rows):
                for kind in ("and", "or"):
                    self.assertIsNone(factor_codes(rows, kind))
            else:
                for kind in ("and", "or"):
                    self.check(rows, kind)

    def test_conditions_without_if(self):
        for condition in [*random_conditions(150, 60, "ab", False), *random_conditions(200, 8, "a", False)]:
            for kind in ("and", "or"):
                expected = [code(factor) for factor in factors(condition, kind)]
                self.assertEqual(self.check(code(condition), kind), expected)

    def test_the_factors_of_an_and_are_those_of_its_members(self):
        conditions = [*random_conditions(60, 20, "abc", seed=22), *random_conditions(40, 7, "ab", seed=23)]
        for one, other in zip(conditions, conditions[1:]):
            for kind in ("and", "or"):
                expected = [*factor_codes(code(one), kind), *factor_codes(code(other), kind)]
                self.assertEqual(self.check(code((kind, one, other)), kind), expected)

    def test_small_codes_against_all_joined_codes(self):
        small = [rows for names in ("a", "b", "aa", "ab", "ba", "bb") for rows in all_codes(len(names), names)]
        small = [rows for rows in small if factor_codes(rows, "and") is not None]
        for kind in ("and", "or"):
            made = {joined(kind, one, other) for one in small for other in small}
            for names in ("a", "aa", "ab", "aab", "aba", "bbb"):
                for rows in all_codes(len(names), names):
                    if factor_codes(rows, kind) is not None:
                        self.assertEqual(len(self.check(rows, kind)) > 1, rows in made, rows)

    def test_one_member(self):
        for text in ["a", "not a", "b if a else c", "b if a else b", "a and b or c", "(a or b) and c or d"]:
            self.assertEqual(self.check(code(read(text)), "and"), [code(read(text))])
        for text in ["a", "a and b", "(a or b) and c", "b if a else not b"]:
            self.assertEqual(self.check(code(read(text)), "or"), [code(read(text))])

    def test_several_members(self):
        for text, kind, expected in [("(b if a else c) and d", "and", ["b if a else c", "d"]),
                                     ("d and (b if a else b)", "and", ["d", "b if a else b"]),
                                     ("b and d if a else c and d", "and", ["b if a else c", "d"]),
                                     ("c if a else b and c", "and", ["a or b", "c"]),
                                     ("(a if b else c) or d or (a if b else c)", "or",
                                      ["a if b else c", "d", "a if b else c"]),
                                     ("(a or b) and c and not d", "and", ["a or b", "c", "not d"]),
                                     ("b or c if a else c", "or", ["a and b", "c"])]:
            self.assertEqual(self.check(code(read(text)), kind), [code(read(part)) for part in expected])

    def test_a_row_that_leads_twice_to_the_next_factor(self):
        for text in ["b if a else b", "b and c if a else b and c", "a and (c if b else c)",
                     "(a or b) and (c if a else c)"]:
            for kind in ("and", "or"):
                self.check(code(read(text)), kind)
        self.assertEqual(len(factor_codes(code(read("b and c if a else b and c")), "and")), 2)
        self.assertEqual(factor_codes(code(read("b and c if a else b and c")), "and")[1], code(read("c")))

    def test_sixty_members(self):
        expected = [(("abcdefgh"[k % 8], "yes", "no"),) for k in range(60)]
        self.assertEqual(self.check(chain(60), "and"), expected)
        self.assertEqual(self.check(chain(60), "or"), [chain(60)])
        self.assertEqual(len(self.check(turned(chain(60)), "or")), 60)

    def test_none_for_codes_that_have_no_condition(self):
        for rows in NONE:
            for kind in ("and", "or"):
                self.assertIsNone(factor_codes(rows, kind))

    def test_exchanged_if_and_only_if_they_are_powers_of_one_list(self):
        conditions = [read(text) for text in ["a", "a and a", "a and a and a", "b if a else c", "a or b", "not a",
                                              "b if a else b"]]
        conditions += [("and", condition, condition) for condition in conditions[3:]]
        conditions += [("and", condition, condition, condition) for condition in conditions[3:5]]
        for one, other in itertools.product(conditions, repeat=2):
            lists = [factor_codes(code(condition), "and") for condition in (one, other)]
            powers = lists[0] * len(lists[1]) == lists[1] * len(lists[0])
            self.assertEqual(code(("and", one, other)) == code(("and", other, one)), powers)

    def test_the_list_belongs_to_the_caller(self):
        factor_codes(ONE, "or").clear()
        self.assertEqual(len(factor_codes(ONE, "or")), 2)


class ConditionOf(unittest.TestCase):
    def test_the_basic_form_of_every_condition(self):
        right = 0
        for condition in [*small_conditions()[:2400:3], *random_conditions(200, 12, "abc"),
                          *random_conditions(50, 60, "ab", False)]:
            try:
                expected = basic(condition)
            except TooLarge:
                self.assertRaises(TooLarge, condition_of, code(condition))
            else:
                self.assertEqual(condition_of(code(condition)), expected)
                self.assertEqual(code(condition_of(code(condition))), code(condition))
                right += 1
        self.assertGreater(right, 900)

    def test_small_codes(self):
        for names in ("a", "ab", "aba"):
            for rows in all_codes(len(names), names):
                if any(yes == no and isinstance(yes, str) for _, yes, no in rows):
                    self.assertIsNone(condition_of(rows))
                else:
                    self.assertEqual(code(condition_of(rows)), rows)

    def test_codes_that_are_the_code_of_no_condition(self):
        for rows in NONE:
            self.assertIsNone(condition_of(rows))

    def test_none_also_where_it_would_be_too_large(self):
        rows = [("a", k + 1, k + 1) for k in range(59)]
        self.assertIsNone(condition_of((*rows, ("a", "no", "no"))))
        self.assertRaises(TooLarge, condition_of, (*rows, ("a", "no", "yes")))

    def test_sixty_tests_and_one_more(self):
        condition = ("and", ("or", A, B), flat("or", "c" * 29))
        self.assertEqual(len(tests(condition_of(code(condition)))), 60)
        self.assertRaises(TooLarge, condition_of, code(("and", A, condition)))
        self.assertEqual(condition_of(chain(60)), basic(flat("and", ["abcdefgh"[k % 8] for k in range(60)])))


class Place(unittest.TestCase):
    def test_functions_are_defined_in_the_file_that_lists_them(self):
        for name in ["parts", "plain_parts", "shaped", "plain", "factor_codes", "condition_of"]:
            self.assertEqual(getattr(shapes, name).__module__, "leftfirst.shapes")


if __name__ == "__main__":
    unittest.main()

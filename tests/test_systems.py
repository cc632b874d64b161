"""[8], [9] Flats, what is told, ranks, lightest bases, directions."""

import unittest
from fractions import Fraction
from itertools import combinations
from random import Random

from helpers import check_error, check_same, form

from leastlog.amounts import Amount
from leastlog.errors import InvalidCosts, InvalidFlat, InvalidForm, InvalidForms
from leastlog.forms import Form
from leastlog.systems import combination, contradiction, direction, form_rank, lightest_base, solution

NO_FORMS = (1, True, None, Amount(1), "a", {"a": 1}, [])
NO_LISTS = (None, 1, "a", {}, {"a": Form()}, Form(), b"")


def rank(rows):
    """The rank of a list of lists of Fractions, found by plain elimination."""
    rows, found = [list(row) for row in rows], 0
    for column in range(len(rows[0]) if rows else 0):
        pivot = next((row for row in rows[found:] if row[column]), None)
        if pivot is None:
            continue
        rows.remove(pivot)
        rows.insert(found, pivot)
        for other in rows[found + 1:]:
            factor = other[column] / pivot[column]
            other[:] = [x - factor * y for x, y in zip(other, pivot)]
        found += 1
    return found


def linear(forms, symbols="abcdef"):
    """The weights of forms as lists of Fractions."""
    return [[Fraction(f.weight(s).top, f.weight(s).bottom) for s in symbols] for f in forms]


def is_told(one, forms, flat):
    """Whether the form is told, by ranks."""
    others = linear([*forms, *flat, Form(0, {"a": 0})])
    return rank(others + linear([one])) == rank(others)


def random_form(random, symbols="abcdef"):
    """A form with few and small weights."""
    chosen = random.sample(symbols, random.randint(0, 3))
    weights = {symbol: Amount(random.randint(-3, 3), random.randint(1, 3)) for symbol in chosen}
    return Form(Amount(random.randint(-2, 2), random.randint(1, 3)), weights)


def random_forms(random, most):
    """A list or tuple of random forms, some of them multiples and sums of others."""
    forms = [random_form(random) for _ in range(random.randint(0, most))]
    if forms and random.random() < 0.4:
        forms.append(random.choice(forms) * random.randint(-2, 2) + random.choice(forms) + random.randint(0, 1))
    return forms if random.random() < 0.5 else tuple(forms)


class RandomSystemsTest(unittest.TestCase):
    def setUp(self):
        random = Random(8)
        self.cases = [(random_form(random), random_forms(random, 4), random_forms(random, 3)) for _ in range(400)]

    def test_rank(self):
        for _, forms, flat in self.cases:
            expected = rank(linear([*forms, *flat])) - rank(linear(flat))
            check_same(self, form_rank(forms, flat), expected)
            check_same(self, form_rank(flat=flat, forms=forms), expected)

    def test_lightest_base(self):
        random = Random(9)
        for _, forms, flat in self.cases:
            costs = [random.randint(0, 3) for _ in forms]
            expected = []
            for _, index in sorted((cost, index) for index, cost in enumerate(costs)):
                if not is_told(forms[index], [forms[other] for other in expected], flat):
                    expected.append(index)
            found = lightest_base(forms, costs, flat)
            check_same(self, found, sorted(expected))
            least = min(sum(costs[index] for index in chosen)
                        for chosen in combinations(range(len(forms)), len(found))
                        if all(is_told(one, [forms[index] for index in chosen], flat) for one in forms))
            self.assertEqual(sum(costs[index] for index in found), least)

    def test_combination_or_direction(self):
        seen = {True: 0, False: 0}
        for one, forms, flat in self.cases:
            told, step = combination(one, forms, flat), direction(one, forms, flat)
            self.assertIs(told is None, step is not None)
            self.assertIs(told is not None, is_told(one, forms, flat))
            seen[step is None] += 1
            if told is not None:
                self.check_combination(one, forms, flat, told)
            else:
                self.check_direction(one, forms, flat, step)
            check_same(self, [combination(one, forms, flat), direction(one, forms, flat)], [told, step])
        self.assertGreater(min(seen.values()), 50)

    def check_combination(self, one, forms, flat, told):
        self.assertIs(type(told), tuple)
        constant, weights, flat_weights = told
        check_same(self, [type(constant), type(weights), type(flat_weights)], [Amount, list, list])
        self.assertEqual([len(weights), len(flat_weights)], [len(forms), len(flat)])
        total = Form(constant)
        for part, weight in zip([*forms, *flat], weights + flat_weights):
            self.assertIs(type(weight), Amount)
            total = total + part * weight
        self.assertEqual(total, one)

    def check_direction(self, one, forms, flat, step):
        self.assertEqual(list(step), sorted(step))
        known = {symbol for part in [one, *forms, *flat] for symbol in part.symbols()}
        self.assertLessEqual(set(step), known)
        self.assertTrue(all(type(value) is Amount and value.sign for value in step.values()))
        at = {**dict.fromkeys(known, 0), **step}
        for part in [*forms, *flat]:
            self.assertEqual(part.linear_part.value_at(at), Amount(0))
        self.assertEqual(one.linear_part.value_at(at), Amount(1))

    def test_solution_or_contradiction(self):
        seen = {True: 0, False: 0}
        for _, forms, flat in self.cases:
            both = [*forms, *flat]
            point, proof = solution(both), contradiction(both)
            self.assertIs(point is None, proof is not None)
            seen[point is None] += 1
            if point is not None:
                self.assertEqual(list(point), sorted({symbol for part in both for symbol in part.symbols()}))
                self.assertTrue(all(type(value) is Amount for value in point.values()))
                self.assertTrue(all(part.value_at(point) == Amount(0) for part in both))
            else:
                self.assertEqual(len(proof), len(both))
                total = Form()
                for part, weight in zip(both, proof):
                    total = total + part * weight
                self.assertEqual(total, Form(1))
            check_same(self, [solution(tuple(both)), contradiction(flat=both)], [point, proof])
        self.assertGreater(min(seen.values()), 30)


class SystemsTest(unittest.TestCase):
    def test_edges(self):
        a, b = Form.symbol("a"), Form.symbol("b")
        check_same(self, [form_rank([]), form_rank((), ()), lightest_base([], [])], [0, 0, []])
        check_same(self, form_rank([Form(1), Form(), a, a * 2 + 7]), 1)
        check_same(self, lightest_base([Form(1), a, a, b, a + b], (0, 1, 1, 2, 0)), [1, 4])
        check_same(self, lightest_base([a, b], [3, 3], [a - b + 1]), [0])
        check_same(self, combination(Form(5), []), (Amount(5), [], []))
        check_same(self, combination(Form(5), (), [a]), (Amount(5), [], [Amount(0)]))
        check_same(self, direction(Form(5), [a]), None)
        check_same(self, direction(a * 4, []), {"a": Amount(1, 4)})
        check_same(self, combination(a, []), None)

    def test_flat_without_points(self):
        a, b = Form.symbol("a"), Form.symbol("b")
        absurd = [a, a - 1]
        check_same(self, [form_rank([a, b], absurd), lightest_base([a, b], [1, 1], absurd)], [1, [1]])
        self.assertIsNone(direction(a + 9, [], absurd))
        self.assertIsNotNone(combination(a + 9, [], absurd))
        self.assertIsNone(combination(b, [], absurd))
        check_same(self, solution(absurd), None)
        check_same(self, form_rank([a], [Form(1)]), 1)

    def test_flats_of_constants(self):
        check_same(self, [solution([]), contradiction([])], [{}, None])
        check_same(self, [solution([Form(), Form()]), contradiction((Form(),))], [{}, None])
        check_same(self, [solution([Form(), Form(4)]), contradiction([Form(), Form(4)])],
                   [None, [Amount(0), Amount(1, 4)]])

    def test_examples(self):
        forms = [form(a=1, b=1), form(7, a=1, b=-1), form(a=1)]
        found = [lightest_base(forms, [5, 1, 2]), form_rank(forms, [form(a=1, b=-1)]),
                 combination(form(1, a=1), forms[:2]), direction(form(a=1), forms[:1])]
        half = Amount(1, 2)
        check_same(self, found, [[1, 2], 1, (Amount(-5, 2), [half, half], []), {"a": Amount(1), "b": Amount(-1)}])

    def test_arguments_stay_as_they_were(self):
        forms, flat, costs = [form(a=1), form(b=1)], [form(a=1, b=1)], [1, 0]
        form_rank(forms, flat), lightest_base(forms, costs, flat), solution(flat), contradiction(flat)
        combination(forms[0], forms, flat), direction(form(c=1), forms, flat)
        check_same(self, [forms, flat, costs], [[form(a=1), form(b=1)], [form(a=1, b=1)], [1, 0]])
        told = combination(forms[0], forms, flat)
        told[1].append(1)
        self.assertEqual(len(combination(forms[0], forms, flat)[1]), 2)

    def test_large_numbers(self):
        big = 10 ** 30
        forms = [form(1, a=big, b=-7), form(0, a=3, b=big)]
        point = solution(forms)
        self.assertEqual([one.value_at(point) for one in forms], [Amount(0), Amount(0)])

    def test_wrong_lists(self):
        a = Form.symbol("a")
        for value in NO_LISTS:
            check_error(self, InvalidForms, {"position": None}, form_rank, value)
            check_error(self, InvalidForms, {"position": None}, lightest_base, value, None, None)
            check_error(self, InvalidForms, {"position": None}, combination, a, value, None)
            check_error(self, InvalidForms, {"position": None}, direction, a, value, 5)
            for call in (solution, contradiction):
                check_error(self, InvalidFlat, {"position": None}, call, value)
            for call in (combination, direction):
                check_error(self, InvalidFlat, {"position": None}, call, a, [a], value)
            check_error(self, InvalidFlat, {"position": None}, form_rank, [a], value)
            check_error(self, InvalidFlat, {"position": None}, lightest_base, [a], [1], value)

    def test_wrong_elements(self):
        a = Form.symbol("a")
        for value in NO_FORMS:
            check_error(self, InvalidForms, {"position": 1}, form_rank, [a, value, 3], [value])
            check_error(self, InvalidForms, {"position": 0}, lightest_base, (value, a), None)
            check_error(self, InvalidFlat, {"position": 2}, form_rank, [], [a, a, value])
            for call in (combination, direction):
                check_error(self, InvalidForm, {"value": value}, call, value, None, None)
                check_error(self, InvalidForms, {"position": 1}, call, a, [a, value], [value])
                check_error(self, InvalidFlat, {"position": 0}, call, a, [a], (value, a))
            for call in (solution, contradiction):
                check_error(self, InvalidFlat, {"position": 1}, call, [a, value])

    def test_wrong_costs(self):
        forms = [Form.symbol("a"), Form.symbol("b")]
        for value in (None, 1, "ab", {}, [], [1], [1, 2, 3], {0: 1, 1: 2}):
            check_error(self, InvalidCosts, {"position": None}, lightest_base, forms, value, None)
        for value in (True, False, -1, None, "1", Amount(1), [1]):
            check_error(self, InvalidCosts, {"position": 0}, lightest_base, forms, [value, value], [1])
            check_error(self, InvalidCosts, {"position": 1}, lightest_base, forms, (1, value))
        check_error(self, InvalidFlat, {"position": 0}, lightest_base, forms, [0, 10 ** 30], [1])


if __name__ == "__main__":
    unittest.main()

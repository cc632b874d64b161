"""[11] to [14] Regions, refutations, bound certificates, pairs."""

import unittest
from random import Random

from helpers import ODD_VALUES, check_error, check_same, form

from leastlog.amounts import Amount
from leastlog.conditions import Condition, Negative, NonPositive, NonZero, Zero
from leastlog.errors import InvalidCondition, InvalidForm, InvalidForms
from leastlog.failures import Impossible
from leastlog.forms import Form
from leastlog.regions import Region
from leastlog.systems import combination

KINDS = (Zero, NonZero, Negative, NonPositive)
MIXTURES = ((1, 1, 1, 1), (1, 1, 3, 5), (0, 1, 0, 4), (0, 1, 1, 6), (1, 4, 1, 4), (0, 0, 3, 1))
X, Y = Form.symbol("x"), Form.symbol("y")


def random_form(random, symbols, constant):
    chosen = random.sample(symbols, random.randint(0, min(3, len(symbols))))
    weights = {symbol: Amount(random.randint(-3, 3), random.randint(1, 2)) for symbol in chosen}
    return Form(Amount(random.randint(-constant, constant), random.randint(1, 2)), weights)


class RegionCheck(unittest.TestCase):
    """Checks of everything that a region tells, by its certificates alone."""

    def total_of(self, conditions, weights):
        self.assertIs(type(weights), list)
        self.assertEqual(len(weights), len(conditions))
        total = Form()
        for condition, weight in zip(conditions, weights):
            self.assertIs(type(weight), Amount)
            if isinstance(condition, NonZero):
                self.assertEqual(weight, Amount(0))
            if not isinstance(condition, Zero):
                self.assertGreaterEqual(weight.sign, 0)
            total = total + condition.form * weight
        return total

    def check_bound(self, conditions, one, weights):
        rest = one - self.total_of(conditions, weights)
        self.assertTrue(rest.is_constant)
        self.assertLessEqual(rest.constant_part.sign, 0)

    def check_refutation(self, conditions, proof):
        self.assertIs(type(proof), tuple)
        if proof[0] == "sum":
            self.assertEqual(len(proof), 2)
            total = self.total_of(conditions, proof[1])
            strict = any(isinstance(condition, Negative) and weight.sign
                         for condition, weight in zip(conditions, proof[1]))
            self.assertTrue(total.is_constant)
            self.assertTrue(total.constant_part.sign > 0 or total.constant_part.sign == 0 and strict)
        else:
            word, index, up, down = proof
            self.assertEqual(word, "zero")
            self.assertIsInstance(conditions[index], NonZero)
            self.check_bound(conditions, conditions[index].form, up)
            self.check_bound(conditions, -conditions[index].form, down)

    def check_inner(self, region, conditions, forced, point):
        self.assertTrue(all(type(amount) is Amount for amount in point.values()))
        self.assertTrue(region.has_point(point))
        for index, condition in enumerate(conditions):
            if isinstance(condition, NonPositive):
                self.assertIs(condition.form.value_at(point).sign == 0, index in forced)

    def check_region(self, conditions, forms, one):
        region = Region(conditions)
        proof = region.refutation()
        self.assertIs(region.is_possible(), proof is None)
        if proof is None:
            self.check_possible(region, conditions, forms, one)
        else:
            self.check_refutation(conditions, proof)
            self.assertIsNone(region.inner_point())
            for call in (region.forced, region.flat, lambda: region.two_points(forms, one)):
                check_error(self, Impossible, {}, call)
        if proof is not None and proof[0] == "sum":
            check_error(self, Impossible, {}, region.bound_certificate, one)
            return
        weights = region.bound_certificate(one)
        if weights is not None:
            self.check_bound(conditions, one, weights)
        else:
            core = [condition for condition in conditions if not isinstance(condition, NonZero)]
            self.assertTrue(Region([*core, Negative(-one)]).is_possible())
        check_same(self, region.bound_certificate(one), weights)

    def check_possible(self, region, conditions, forms, one):
        forced, flat, point = region.forced(), region.flat(), region.inner_point()
        self.assertEqual(list(point), region.symbols())
        self.check_inner(region, conditions, forced, point)
        for index in forced:
            self.check_bound(conditions, -conditions[index].form, region.bound_certificate(-conditions[index].form))
        check_same(self, flat, [condition.form for index, condition in enumerate(conditions)
                                if isinstance(condition, Zero) or index in forced])
        pair = region.two_points(forms, one)
        self.assertIs(pair is None, combination(one, forms, flat) is not None)
        if pair is not None:
            self.assertIs(type(pair), tuple)
            symbols = sorted({symbol for part in [one, *forms] for symbol in part.symbols()} | set(region.symbols()))
            for end in pair:
                self.assertEqual(list(end), symbols)
                self.check_inner(region, conditions, forced, end)
            for part in forms:
                self.assertEqual(part.value_at(pair[0]), part.value_at(pair[1]))
            self.assertNotEqual(one.value_at(pair[0]), one.value_at(pair[1]))
        check_same(self, [region.forced(), region.flat(), region.inner_point(), region.two_points(forms, one)],
                   [forced, flat, point, pair])


class RandomRegionsTest(RegionCheck):
    def test_random_regions(self):
        random = Random(11)
        kinds = {}
        for _ in range(1200):
            symbols = ["u", "v", "w", "x"][:random.randint(1, 4)]
            conditions = []
            mixture = random.choice(MIXTURES)
            for _ in range(random.randint(0, 7)):
                kind = random.choices(KINDS, mixture)[0]
                conditions.append(kind(random_form(random, symbols, random.choice((0, 1, 3)))))
            forms = [random_form(random, [*symbols, "z"], 2) for _ in range(random.randint(0, 2))]
            self.check_region(conditions, forms, random_form(random, [*symbols, "z"], 2))
            proof = Region(conditions).refutation()
            kinds[proof and proof[0]] = kinds.get(proof and proof[0], 0) + 1
        self.assertGreater(min(kinds[kind] for kind in (None, "sum", "zero")), 40)

    def test_large_regions(self):
        random = Random(45)
        symbols = [f"s{number}" for number in range(45)]
        for spread in (2, 6):
            for bound in (3, 40):
                middle = {symbol: random.randint(-5, 5) for symbol in symbols}
                conditions = []
                for index in range(150):
                    weights = {symbol: random.choice((-1, 1)) * random.randint(1, bound)
                               for symbol in random.sample(symbols, spread)}
                    value = sum(weights[symbol] * middle[symbol] for symbol in weights)
                    kind = Zero if index < 6 else random.choices(KINDS, (0, 1, 3, 4))[0]
                    slack = {Zero: 0, NonZero: 1, Negative: 2, NonPositive: random.choice((0, 1))}[kind]
                    conditions.append(kind(Form(-value - slack, weights)))
                self.check_region(conditions, [Form.symbol("s0")], Form.symbol("s1"))
                self.check_region([*conditions, Negative(-conditions[-1].form), Negative(conditions[-1].form)], [], X)

    def test_large_regions_that_are_one_point(self):
        random = Random(46)
        symbols = [f"s{number}" for number in range(45)]
        for spread in (3, 8):
            middle = {symbol: random.randint(-5, 5) for symbol in symbols}
            conditions = []
            for _ in range(140):
                weights = {symbol: random.randint(-5, 5) for symbol in random.sample(symbols, spread)}
                value = sum(weights[symbol] * middle[symbol] for symbol in weights)
                conditions.append(NonPositive(Form(-value, weights)))
            conditions += [NonPositive(Form(middle[symbol], {symbol: -1})) for symbol in symbols[:9]]
            self.check_region(conditions, [Form.symbol("s0")], Form.symbol("s1"))
            self.check_region([*conditions, Negative(conditions[3].form)], [], X)
            self.check_region([*conditions, NonZero(conditions[3].form)], [], X)

    def test_numbers_of_many_digits(self):
        random = Random(30)
        symbols = [f"s{number}" for number in range(8)]
        for _ in range(5):
            conditions = []
            for index in range(20):
                weights = {symbol: random.randint(-10 ** 30, 10 ** 30) for symbol in random.sample(symbols, 4)}
                kind = random.choices(KINDS, (0, 1, 3, 4))[0]
                conditions.append(kind(Form(-random.randint(1, 10 ** 30), weights)))
            self.check_region(conditions, [Form.symbol("s0")], Form.symbol("s1"))


class RegionsTest(RegionCheck):
    def test_no_conditions(self):
        region = Region()
        check_same(self, [region.conditions(), region.symbols(), region.is_possible(), region.inner_point()],
                   [[], [], True, {}])
        check_same(self, [region.forced(), region.flat(), region.refutation()], [[], [], None])
        check_same(self, [region.has_point({}), region.has_point({"a": 1}), region.has_point(None)],
                   [True, True, False])
        check_same(self, region.bound_certificate(Form(0)), [])
        check_same(self, region.bound_certificate(Form(1)), None)
        check_same(self, region.bound_certificate(X), None)
        self.check_region([], [], X)
        self.check_region([], [X], X + 1)

    def test_conditions_and_symbols(self):
        listed = [Zero(Form.symbol("b")), NonZero(form(0, a=1, b=1)), Negative(form(-1, c=1))]
        region = Region(conditions=listed)
        listed.append(Zero(X))
        check_same(self, region.symbols(), ["a", "b", "c"])
        check_same(self, region.conditions(), listed[:3])
        region.conditions().append(1)
        region.flat().append(1)
        region.inner_point()["a"] = 1
        check_same(self, [len(region.conditions()), len(region.flat())], [3, 1])
        self.check_region(listed, [X], Y)

    def test_empty_cores(self):
        for conditions in (
            [Zero(Form(1))], [Zero(Form(-1))], [Negative(Form(0))], [Negative(Form(1))], [NonPositive(Form(2))],
            [Negative(X), Negative(-X)], [NonPositive(X), Negative(-X)], [Zero(X), Zero(X - 1)],
            [Zero(X), Zero(X + 1)], [NonPositive(X + 1), NonPositive(-X)], [Zero(X - Y), Negative(X - Y)],
            [NonZero(Form()), Zero(Form(-1))], [Zero(X), NonPositive(X * -1 + 1)],
        ):
            region = Region(conditions)
            self.assertEqual(region.refutation()[0], "sum")
            self.check_region(conditions, [], X)

    def test_forms_that_are_zero_on_the_core(self):
        for conditions in (
            [NonZero(Form())], [Zero(X), NonZero(X)], [NonPositive(X), NonPositive(-X), NonZero(X * 3)],
            [Zero(X - Y), NonZero(Y), NonZero(X * 2 - Y * 2)],
            [NonPositive(X - 3), NonPositive(Y - 2), NonPositive(-X - Y + 5), NonZero(X - Y - 1)],
        ):
            region = Region(conditions)
            self.assertEqual(region.refutation()[0], "zero")
            self.check_region(conditions, [], X)
            self.check_region(conditions, [], Form(-1))

    def test_thin_cores(self):
        thin = [NonPositive(X - Y), NonPositive(Y - X), NonPositive(X - 1), Negative(-X)]
        check_same(self, Region(thin).forced(), [0, 1])
        self.check_region(thin, [], X - Y)
        self.check_region(thin, [X], Y)
        point = [NonPositive(X - 3), NonPositive(-X + 3), Zero(Y), NonPositive(Form(0)), NonPositive(Form(-1))]
        check_same(self, Region(point).forced(), [0, 1, 3])
        check_same(self, Region(point).inner_point(), {"x": Amount(3), "y": Amount(0)})
        self.check_region(point, [], X)

    def test_has_point(self):
        region = Region([Negative(X - 1), NonZero(Y)])
        for value, expected in (
            ({"x": 0, "y": 1}, True), ({"x": 0, "y": 1, "z": Amount(1, 2)}, True), ({"x": 1, "y": 1}, False),
            ({"x": 0, "y": 0}, False), ({"x": 0}, False), ({}, False), ({"x": 0, "y": True}, False),
            ({"x": 0, "y": 1, "Z": 1}, False), ({"x": 0, "y": 1, 3: 1}, False), ({"x": 0, "y": X}, False),
        ):
            check_same(self, region.has_point(value), expected)
        for value in ODD_VALUES:
            check_same(self, region.has_point(value), False)

    def test_joined(self):
        region = Region([Negative(X - 1)])
        wide = region.joined(NonPositive(-X), Zero(Y - X))
        check_same(self, wide.conditions(), [Negative(X - 1), NonPositive(-X), Zero(Y - X)])
        one_by_one = region.joined(NonPositive(-X)).joined(Zero(Y - X))
        check_same(self, one_by_one.conditions(), wide.conditions())
        check_same(self, one_by_one.inner_point(), wide.inner_point())
        check_same(self, region.conditions(), [Negative(X - 1)])
        check_same(self, region.joined().conditions(), region.conditions())
        check_same(self, [region.joined(Zero(X - 1)).is_possible(), region.is_possible()], [False, True])

    def test_bound_certificates(self):
        region = Region([NonPositive(X - 3), NonPositive(Y - 2), NonZero(X)])
        check_same(self, region.bound_certificate(X + Y - 5), [Amount(1), Amount(1), Amount(0)])
        check_same(self, region.bound_certificate(X + Y - 4), None)
        check_same(self, region.bound_certificate(X - Y), None)
        check_same(self, region.bound_certificate(Form.symbol("z")), None)
        check_same(self, region.bound_certificate(form=Form(-1)), [Amount(0)] * 3)
        impossible = Region([Zero(X), NonZero(X)])
        check_same(self, impossible.bound_certificate(X), [Amount(1), Amount(0)])
        check_same(self, Region([Negative(X)]).bound_certificate(X), [Amount(1)])

    def test_wrong_conditions(self):
        for value in (None, 1, "a", {}, Zero(X), {0: Zero(X)}):
            check_error(self, InvalidCondition, {"position": None}, Region, value)
        for value in (*ODD_VALUES, X, Condition(X), 1):
            check_error(self, InvalidCondition, {"position": 1}, Region, [Zero(X), value, 3])
            check_error(self, InvalidCondition, {"position": 0}, Region([Zero(X)]).joined, value, Zero(X))
            check_error(self, InvalidCondition, {"position": 1}, Region([Zero(X)]).joined, Zero(X), value)

    def test_wrong_forms(self):
        for region in (Region([Zero(X)]), Region([Zero(X), NonZero(X)]), Region([Negative(Form(1))])):
            for value in (*ODD_VALUES, 1, Amount(1)):
                check_error(self, InvalidForm, {"value": value}, region.bound_certificate, value)
                check_error(self, InvalidForm, {"value": value}, region.two_points, [X], value)
                check_error(self, InvalidForms, {"position": 1}, region.two_points, [X, value], value)
            for value in (None, 1, "a", {}, X):
                check_error(self, InvalidForms, {"position": None}, region.two_points, value, None)
        check_error(self, Impossible, {}, Region([Zero(X), NonZero(X)]).two_points, (), Form())
        check_error(self, Impossible, {}, Region([Negative(Form(1))]).bound_certificate, X)

    def test_example(self):
        region = Region([NonPositive(Form.of(-3, x=1)), NonPositive(Form.of(-2, y=1)),
                         NonPositive(Form.of(5, x=-1, y=-1))])
        found = [region.forced(), region.inner_point(), region.two_points([Form.symbol("z")], Form.of(x=1)),
                 region.bound_certificate(Form.of(-2, x=1))]
        check_same(self, found, [[0, 1, 2], {"x": Amount(3), "y": Amount(2)}, None, None])


if __name__ == "__main__":
    unittest.main()

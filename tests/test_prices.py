"""Module handsweeps.prices: points [50] to [52]."""

from itertools import product

from handsweeps.errors import InvalidBudget, InvalidPrices, InvalidWord, NotForSale
from handsweeps.loads import Load
from handsweeps.prices import Prices
from handsweeps.staircases import Staircase
from handsweeps.sweeps import Backward, Forward
from tests.cases import Case
from tests.samples import (
    GivesSignsAMeaning, not_integers, operators_of, profiles, stairs_with, values_of_every_kind,
)

LISTS = (
    ({1: 5, 3: 9}, {2: 4}), ({1: 4}, {1: 5}), ({}, {}), ({2: 7}, {}), ({}, {3: 1, 1: 1}), ({20: 1000}, {1: 1}),
    ({5: 3, 1: 2, 2: 2}, {4: 6, 3: 6, 2: 3}), ({7: 1000, 19: 1}, {20: 1, 1: 1000}),
)
# Corners.
SHAPES = (
    (), ((1, 1),), ((2, 3), (4, 1)), ((1, 5), (2, 3), (6, 2), (7, 1)), ((9, 1),), ((1, 8),), ((3, 4),),
)
GREAT_SHAPES = (((1200, 1200),), ((1, 1200), (600, 500), (1200, 3)), ((1200, 1),), ((1, 1200),))


def pairs_of(stairs):
    return [(load.forward, load.backward) for load in stairs.least()]


def least_cost(entries, reach):
    """The least price of sizes with a sum of at least reach, by trying all; None if nothing is for sale."""
    if reach <= 0:
        return 0
    costs = [price + least_cost(entries, reach - size) for size, price in entries.items()]
    return min(costs, default=None)


def sums_of(word):
    return [sum(sweep.size for sweep in word if type(sweep) is kind) for kind in (Forward, Backward)]


def cost_of(lists, word):
    """The price of a word, None if some of its sweeps are not for sale."""
    prices = [lists[type(sweep) is Backward].get(sweep.size) for sweep in word]
    return None if None in prices else sum(prices)


def is_word_for(lists, stairs, value):
    """Whether a value is a word that is for sale and reaches a staircase ([50])."""
    if type(value) is not tuple or not all(type(sweep) in (Forward, Backward) for sweep in value):
        return False
    forward, backward = sums_of(value)
    return cost_of(lists, value) is not None and any(forward >= a and backward >= b for a, b in pairs_of(stairs))


def is_floor(entries, most, value):
    """Whether a value is a floor up to most ([51])."""
    if type(value) is not tuple or len(value) != most + 1 or not all(type(number) is int for number in value):
        return False
    return value[0] == 0 and all(
        value[x] <= price + value[max(0, x - size)] for x in range(1, most + 1) for size, price in entries.items()
    )


def are_floors(lists, stairs, floors, price):
    """Whether values are floors with sums of at least a price for each least load ([52])."""
    pairs = pairs_of(stairs)
    if not is_floor(lists[0], pairs[-1][0], floors[0]) or not is_floor(lists[1], pairs[0][1], floors[1]):
        return False
    return all(floors[0][a] + floors[1][b] >= price for a, b in pairs)


def is_right(lists, stairs, value):
    """What check has to tell."""
    if type(value) is not tuple or not value or type(value[0]) is not str:
        return False
    if value[0] == "none" and len(value) == 1:
        return all((a and not lists[0]) or (b and not lists[1]) for a, b in pairs_of(stairs))
    if value[0] != "word" or len(value) != 4 or not is_word_for(lists, stairs, value[1]):
        return False
    return are_floors(lists, stairs, value[2:], cost_of(lists, value[1]))


def is_within(lists, stairs, budget, value):
    """What check_within has to tell."""
    if type(value) is not tuple or not value or type(value[0]) is not str:
        return False
    if value[0] == "word" and len(value) == 2:
        return is_word_for(lists, stairs, value[1]) and cost_of(lists, value[1]) <= budget
    return value[0] == "floors" and len(value) == 3 and are_floors(lists, stairs, value[1:], budget + 1)


def changed(value):
    """The value with changes at one place, at each place of the tuples in it."""
    if type(value) is not tuple:
        others = [None, True, False, (), [], "word", "none", "floors", GivesSignsAMeaning(), Forward(20), Backward(20)]
        if type(value) is int:
            others += [value + 1, value - 1, -value, value + 10 ** 999, [value], (value,)]
        return others
    found = [list(value), value + (0,), value + value, (value,), value[::-1]]
    for place, item in enumerate(value):
        found += [value[:place] + (other,) + value[place + 1:] for other in changed(item)]
        found += [value[:place] + value[place + 1:], value[:place] + (item,) + value[place:]]
    return found


class Creating(Case):

    def test_the_dicts(self):
        for lists in LISTS:
            for prices in (Prices(*lists), Prices(backward=lists[1], forward=lists[0])):
                self.assertEqual([prices.forward, prices.backward], [*lists])
                self.assertEqual([type(prices.forward), type(prices.backward)], [dict, dict])

    def test_all_sizes_and_the_edges_of_prices(self):
        for price in (1, 2, 999, 1000):
            entries = {size: price for size in range(20, 0, -1)}
            prices = Prices(entries, entries)
            self.assertEqual([prices.forward, prices.backward], [entries, entries])
            self.assertEqual(list(prices.forward), list(range(20, 0, -1)))

    def test_changed_dicts(self):
        forward, backward = {1: 5}, {2: 4}
        prices = Prices(forward, backward)
        forward[1] = 7
        backward.clear()
        self.assertEqual([prices.forward, prices.backward], [{1: 5}, {2: 4}])
        told = prices.forward, prices.backward
        told[0][1] = 8
        told[1][3] = 1
        self.assertEqual([prices.forward, prices.backward], [{1: 5}, {2: 4}])
        self.assertEqual(prices.price_of((Forward(1), Backward(2))), 9)
        self.assertRaises(AttributeError, setattr, prices, "forward", {})

    def test_no_dicts(self):
        for value in values_of_every_kind() + [[(1, 5)], ((1, 5),), [1]]:
            if isinstance(value, dict):
                continue
            with self.subTest(value=value):
                for backward in ({1: 5}, None, {0: 0}):
                    self.check_error(lambda: Prices(value, backward), InvalidPrices, direction="forward", key=None)
                self.check_error(lambda: Prices({1: 5}, value), InvalidPrices, direction="backward", key=None)

    def check_key(self, entries, key):
        before = list(entries.items())
        for other in ({1: 5}, {}, None, {0: 0}):
            self.check_error(lambda: Prices(entries, other), InvalidPrices, direction="forward", key=key)
        self.check_error(lambda: Prices({1: 5}, entries), InvalidPrices, direction="backward", key=key)
        self.assertEqual(list(entries.items()), before)

    def test_wrong_keys(self):
        for key in not_integers() + [0, 21, 22, -1, 10 ** 999, -10 ** 999]:
            try:
                hash(key)
            except TypeError:
                continue
            with self.subTest(key=key):
                self.check_key({key: 5}, key)
                if key is not True:
                    self.check_key({1: 5, 20: 1000, key: 5}, key)
                self.check_key({20: 5, key: 5, 0: 5, 3: 0}, key)

    def test_wrong_prices(self):
        for price in not_integers() + [0, 1001, 1002, -1, 10 ** 999, -10 ** 999, GivesSignsAMeaning()]:
            with self.subTest(price=price):
                self.check_key({7: price}, 7)
                self.check_key({1: 1, 2: 1000, 20: price, 19: price}, 20)
                self.check_key({3: price, 0: 5}, 3)
                self.check_key({0: price, 3: 5}, 0)


class Equality(Case):

    def test_price_lists(self):
        for one in LISTS:
            for other in LISTS:
                self.assertIs(Prices(*one) == Prices(*other), one == other)
                self.assertIs(Prices(*one) != Prices(*other), one != other)
        self.assertIs(Prices({1: 5, 3: 9}, {2: 4, 1: 1}) == Prices({3: 9, 1: 5}, {1: 1, 2: 4}), True)
        self.assertIs(Prices({1: 5}, {}) == Prices({}, {1: 5}), False)
        self.assertIs(Prices({1: 5}, {}) == Prices({1: 6}, {}), False)

    def test_other_values(self):
        prices = Prices({1: 5}, {})
        for value in values_of_every_kind() + [({1: 5}, {}), {1: 5}]:
            self.assertIs(prices == value, False)
            self.assertIs(prices != value, True)
            if not isinstance(value, GivesSignsAMeaning):
                for act in operators_of():
                    self.assertRaises(TypeError, act, prices, value)


class PriceOf(Case):

    PRICES = Prices({1: 5, 3: 9}, {2: 4})

    def test_words(self):
        self.assertEqual(self.PRICES.price_of(()), 0)
        self.assertEqual(self.PRICES.price_of(word=(Forward(1), Backward(2), Forward(3), Forward(1))), 23)
        # How great the load is does not matter.
        self.assertEqual(Prices({20: 1000}, {20: 1}).price_of((Forward(20), Backward(20)) * 100), 100100)

    def test_wrong_words(self):
        self.check_error(lambda: self.PRICES.price_of([Forward(1)]), InvalidWord, position=None)
        for value in values_of_every_kind():
            if isinstance(value, (Forward, Backward)):
                continue
            with self.subTest(value=value):
                if not isinstance(value, tuple):
                    self.check_error(lambda: self.PRICES.price_of(value), InvalidWord, position=None)
                word = (Forward(2), Backward(1), value, value)
                self.check_error(lambda: self.PRICES.price_of(word), InvalidWord, position=2)

    def test_sweeps_that_are_not_for_sale(self):
        for size in range(1, 21):
            for kind, entries in ((Forward, (1, 3)), (Backward, (2,))):
                if size not in entries:
                    for word, position in (
                        ((kind(size),), 0), ((Forward(1), Backward(2), kind(size)), 2), ((kind(size), kind(size)), 0),
                        ((Forward(3), kind(size), Backward(20)), 1),
                    ):
                        self.check_error(lambda: self.PRICES.price_of(word), NotForSale, position=position)
        self.check_error(lambda: Prices({}, {}).price_of((Forward(1),)), NotForSale, position=0)


class LeastPrices(Case):

    def check_answer(self, lists, stairs, value):
        self.assertIs(type(value), tuple)
        self.assertTrue(is_right(lists, stairs, value))
        self.assertIs(Prices(*lists).check(stairs, value), True)

    def test_small_staircases(self):
        for lists in LISTS:
            prices = Prices(*lists)
            for shape in SHAPES:
                stairs = Staircase.of_corners(shape)
                value = prices(stairs)
                self.check_answer(lists, stairs, value)
                costs = [[least_cost(entries, number) for entries, number in zip(lists, pair)] for pair in pairs_of(stairs)]
                costs = [sum(pair) for pair in costs if None not in pair]
                if costs:
                    self.assertEqual(value[0], "word")
                    self.assertEqual(prices.price_of(value[1]), min(costs))
                else:
                    self.assertEqual(value, ("none",))
                self.assertEqual([prices.forward, prices.backward], [*lists])
                self.assertEqual(stairs.corners(), shape)

    def test_no_word_costs_less(self):
        lists = {1: 2, 2: 3, 5: 5}, {1: 3, 4: 7}
        sweeps = [Forward(1), Forward(2), Forward(5), Backward(1), Backward(4)]
        words = [word for many in range(5) for word in product(sweeps, repeat=many)]
        for many in range(1, 5):
            for values in profiles(many):
                stairs = stairs_with(values)
                price = Prices(*lists).price_of(Prices(*lists)(stairs=stairs)[1])
                reaching = [cost_of(lists, word) for word in words if is_word_for(lists, stairs, word)]
                self.assertEqual(price, min(reaching))

    def test_great_staircases(self):
        for lists in LISTS:
            prices = Prices(*lists)
            for shape in GREAT_SHAPES:
                stairs = Staircase.of_corners(shape)
                self.check_answer(lists, stairs, prices(stairs))
        value = Prices({19: 1000}, {})(Staircase.of_corners(((1200, 1200),)))
        self.assertEqual([sums_of(value[1]), Prices({19: 1000}, {}).price_of(value[1])], [[1216, 0], 64000])
        dearest = Prices({1: 1000}, {1: 1000})
        value = dearest(Staircase.of_corners(((1200, 1200),)))
        self.assertEqual(dearest.price_of(value[1]), 1200000)
        value = dearest(Staircase(Load(0, 1200), Load(1199, 1199), Load(1200, 0)))
        self.assertEqual(dearest.price_of(value[1]), 1200000)

    def test_nothing_is_for_sale(self):
        nothing = Prices({}, {})
        self.assertEqual(nothing(Staircase(Load(0, 0))), ("word", (), (0,), (0,)))
        self.assertIs(nothing.check(Staircase(Load(0, 0)), ("none",)), False)
        for shape in SHAPES[1:] + GREAT_SHAPES:
            stairs = Staircase.of_corners(shape)
            self.assertEqual(nothing(stairs), ("none",))
            self.assertIs(nothing.check(stairs, ("none",)), True)

    def test_one_direction(self):
        stairs = Staircase.of_corners(((2, 3), (4, 1)))
        self.assertEqual(sums_of(Prices({3: 7}, {})(stairs)[1]), [6, 0])
        self.assertEqual(sums_of(Prices({}, {2: 7})(stairs)[1]), [0, 4])

    def test_a_least_load_in_the_middle(self):
        stairs = Staircase.of_corners(((2, 9), (9, 2)))
        value = Prices({1: 1}, {1: 1})(stairs)
        self.assertEqual(sums_of(value[1]), [2, 2])


class Checking(Case):

    def test_changes_at_one_place(self):
        for lists in LISTS:
            prices = Prices(*lists)
            for shape in SHAPES:
                stairs = Staircase.of_corners(shape)
                for value in changed(prices(stairs)):
                    self.assertIs(prices.check(stairs, value), is_right(lists, stairs, value))

    def test_other_words(self):
        lists = {1: 2, 2: 4, 5: 9}, {1: 2, 4: 8}
        prices = Prices(*lists)
        sweeps = [Forward(1), Forward(2), Forward(3), Forward(5), Backward(1), Backward(4)]
        words = [word for many in range(5) for word in product(sweeps, repeat=many)]
        for shape in SHAPES:
            stairs = Staircase.of_corners(shape)
            _, best, forward, backward = prices(stairs)
            accepted = 0
            for word in words:
                value = "word", word, forward, backward
                expected = is_word_for(lists, stairs, word) and cost_of(lists, word) == cost_of(lists, best)
                self.assertIs(prices.check(stairs, value), expected)
                accepted += expected
            if shape == SHAPES[2]:
                self.assertGreater(accepted, 2)

    def test_other_floors(self):
        # With one size for sale, all tuples of few integers.
        lists = {2: 3}, {1: 2}
        stairs = Staircase.of_corners(((3, 2),))
        prices = Prices(*lists)
        word = (Backward(1), Backward(1))
        accepted = 0
        for forward in product((-1, 0, 1, 3, 4, 6, 7), repeat=4):
            for backward in ((0, 2, 4), (0, 1, 4), (0, 2, 5), (0, -7, 0), (0, 2, 3), (1, 2, 4)):
                value = "word", word, forward, backward
                expected = is_right(lists, stairs, value)
                self.assertIs(prices.check(stairs=stairs, value=value), expected)
                accepted += expected
        self.assertGreater(accepted, 10)

    def test_floors_where_nothing_is_for_sale(self):
        stairs = Staircase.of_corners(((2, 3), (4, 1)))
        prices = Prices({}, {2: 4})
        for forward, expected in (
            ((0, 0, 4, 4, 8), True), ((0, -5, 10 ** 999, 4, 8), True), ((0, 0, 3, 0, 8), False), ((0, 0, 4, 0, 7), False),
            ((1, 0, 4, 4, 8), False), ((0, 0, 4, 4, 8, 8), False), ((0, 0, 4, 8), False),
        ):
            value = "word", (Backward(2), Backward(2)), forward, (0, 4, 4, 8)
            self.assertIs(prices.check(stairs, value), expected)

    def test_values_of_every_kind(self):
        for lists in LISTS[:5]:
            prices = Prices(*lists)
            for shape in SHAPES[:3]:
                stairs = Staircase.of_corners(shape)
                right = prices(stairs)
                for value in values_of_every_kind():
                    self.assertIs(prices.check(stairs, value), False)
                    self.assertIs(prices.check(stairs, (value,)), False)
                    self.assertIs(prices.check(stairs, (value,) + right[1:]), False)
                    for place in range(1, len(right)):
                        wrong = right[:place] + (value,) + right[place + 1:]
                        self.assertIs(prices.check(stairs, wrong), is_right(lists, stairs, wrong))


class Within(Case):

    def test_at_below_and_above_the_least_price(self):
        for lists in LISTS:
            prices = Prices(*lists)
            for shape in SHAPES:
                stairs = Staircase.of_corners(shape)
                answer = prices(stairs)
                price = prices.price_of(answer[1]) if answer[0] == "word" else 10 ** 6
                for budget in {0, 1, max(0, price - 1), price, price + 1, 999999, 10 ** 6}:
                    if budget <= 10 ** 6:
                        value = prices.within(stairs, budget)
                        self.assertIs(type(value), tuple)
                        self.assertTrue(is_within(lists, stairs, budget, value))
                        self.assertIs(prices.check_within(stairs, budget, value), True)
                        is_enough = answer[0] == "word" and budget >= price
                        self.assertEqual(value[0], "word" if is_enough else "floors")

    def test_great_staircases(self):
        for lists in LISTS + (({1: 1000}, {1: 1000}),):
            prices = Prices(*lists)
            for shape in GREAT_SHAPES:
                stairs = Staircase.of_corners(shape)
                for budget in (0, 10 ** 6):
                    value = prices.within(stairs=stairs, budget=budget)
                    self.assertTrue(is_within(lists, stairs, budget, value))
                    self.assertIs(prices.check_within(stairs, budget, value), True)

    def test_changes_at_one_place(self):
        for lists in LISTS[:5]:
            prices = Prices(*lists)
            for shape in SHAPES[:5]:
                stairs = Staircase.of_corners(shape)
                for budget in (0, 3, 8, 9, 20, 10 ** 6):
                    for value in changed(prices.within(stairs, budget)):
                        found = prices.check_within(stairs=stairs, budget=budget, value=value)
                        self.assertIs(found, is_within(lists, stairs, budget, value))

    def test_words_and_floors_of_the_call(self):
        prices = Prices({1: 5, 3: 9}, {2: 4})
        stairs = Staircase.of_corners(((2, 3), (4, 1)))
        _, word, forward, backward = prices(stairs)
        for budget in range(15):
            self.assertIs(prices.check_within(stairs, budget, ("word", word)), budget >= 8)
            self.assertIs(prices.check_within(stairs, budget, ("floors", forward, backward)), budget < 8)
            for value in (("none",), ("word", word, forward, backward), ("floors",), ("word",), ("floors", forward)):
                self.assertIs(prices.check_within(stairs, budget, value), False)

    def test_values_of_every_kind(self):
        prices = Prices({1: 5, 3: 9}, {2: 4})
        stairs = Staircase.of_corners(((2, 3), (4, 1)))
        for value in values_of_every_kind():
            for wrong in (value, (value,), ("word", value), ("floors", value, value), (value, (Backward(2),) * 2)):
                expected = is_within(({1: 5, 3: 9}, {2: 4}), stairs, 8, wrong)
                self.assertIs(prices.check_within(stairs, 8, wrong), expected)

    def test_wrong_budgets(self):
        prices = Prices({1: 5, 3: 9}, {2: 4})
        stairs = Staircase.of_corners(((2, 3), (4, 1)))
        for value in not_integers() + [-1, -2, 10 ** 6 + 1, 10 ** 999, -10 ** 999, GivesSignsAMeaning()]:
            with self.subTest(value=value):
                self.check_error(lambda: prices.within(stairs, value), InvalidBudget, value=value)
                for told in (None, ("word", ()), prices.within(stairs, 8)):
                    self.check_error(lambda: prices.check_within(stairs, value, told), InvalidBudget, value=value)

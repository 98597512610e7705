import itertools
import random
import unittest

from tests import brute
from windowpicks.errors import InvalidLot, InvalidOrder
from windowpicks.orders import best_order, best_share, cost, order_share, prices, prices_hold
from windowpicks.rules import Rule
from windowpicks.shares import even_share

# All sizes of rules with at most 8 pieces.
ORDER_SIZES = [(letters, w, k) for letters, w, k in brute.SIZES if letters ** k <= 8]


def pieces_of(text, k):
    return [text[at:at + k] for at in range(len(text) - k + 1)]


def is_counted(text, k, lot, piece):
    """Whether a text of w + k letters counts for the cost of a piece behind a lot."""
    there = pieces_of(text, k)
    if piece not in there or any(one in lot for one in there):
        return False
    return there[0] == piece or there[-1] == piece and there.count(piece) == 1


def cost_by_trying(letters, w, k, lot, piece):
    return sum(is_counted(text, k, lot, piece) for text in brute.all_texts(letters, w + k))


def all_costs(letters, w, k):
    """The costs of all pieces behind all lots, by the numbers of the lots and the indexes of the pieces."""
    pieces = brute.all_texts(letters, k)
    there = []
    for text in brute.all_texts(letters, w + k):
        row = [pieces.index(piece) for piece in pieces_of(text, k)]
        counted = {row[0]} | ({row[-1]} if row.count(row[-1]) == 1 else set())
        there.append((sum(1 << at for at in set(row)), counted))
    costs = {}
    for lot in range(1 << len(pieces)):
        left = [counted for row, counted in there if not row & lot]
        for at in range(len(pieces)):
            if not lot >> at & 1:
                costs[lot, at] = sum(at in counted for counted in left)
    return costs


def is_right(letters, w, k, share, paper, costs):
    """A second look at what the document says of right prices."""
    p, q = share
    if paper[-1] > 0 or q * paper[0] < p * letters ** (w + k):
        return False
    return all(paper[lot] <= one + paper[lot | 1 << at] for (lot, at), one in costs.items())


def share_of_order(letters, w, k, order):
    """The share of the texts of w + k letters whose two windows pick different places."""
    table = dict(zip(brute.all_texts(letters, w + k - 1), brute.table_by_order(letters, w, k, order)))
    texts = brute.all_texts(letters, w + k)
    return brute.value(sum(table[text[:-1]] != table[text[1:]] + 1 for text in texts), len(texts))


class OrderShare(unittest.TestCase):
    def test_against_the_rule_by_the_order(self):
        chance = random.Random(100)
        for letters, w, k in ORDER_SIZES:
            pieces = brute.all_texts(letters, k)
            for order in [pieces, pieces[::-1], tuple(chance.sample(pieces, len(pieces)))]:
                found = order_share(letters, w, k, order)
                self.assertEqual(found, even_share(Rule.by_order(letters, w, k, order)), (letters, w, k, order))
                self.assertEqual(found, share_of_order(letters, w, k, order), (letters, w, k, order))
                self.assertIs(found.__class__, tuple)

    def wrong(self, letters, k, order):
        with self.assertRaises(InvalidOrder):
            order_share(letters, 2, k, order)

    def test_wrong_orders(self):
        for value in brute.any_values() + ["ab", {"a": 0, "b": 1}, {"a", "b"}, b"ab", range(2)]:
            self.wrong(2, 1, value)
            self.wrong(2, 1, ["a", value] if value != "b" else ["a", value, "a"])
            self.wrong(2, 1, (value, "b") if value != "a" else (value, "b", "b"))
        for order in [[], ["a"], ["a", "a"], ["a", "b", "a"], ["a", "c"], ["b", "b"], ["a", "b", None], ["A", "b"]]:
            self.wrong(2, 1, order)
            self.wrong(2, 1, tuple(order))
        self.wrong(2, 2, ["aa", "ab", "ba"])
        self.wrong(2, 2, ["aa", "ab", "ba", "ba"])
        self.wrong(2, 2, ["aa", "ab", "ba", "bb", "bb"])
        self.wrong(3, 1, ["a", "b"])
        self.wrong(2, 1, ["a", "b", "c"])

    def test_by_names_and_again(self):
        order = ["ab", "aa", "ba", "bb"]
        for _ in range(2):
            self.assertEqual(order_share(order=order, k=2, w=2, letters=2), (11, 16))
            self.assertEqual(order_share(2, 2, 2, tuple(order)), (11, 16))
        self.assertEqual(order, ["ab", "aa", "ba", "bb"])


class Best(unittest.TestCase):
    def check_order(self, letters, w, k, share):
        order = best_order(letters, w, k)
        self.assertIs(order.__class__, tuple)
        self.assertEqual(sorted(order), brute.all_texts(letters, k))
        self.assertEqual(share_of_order(letters, w, k, order), share, (letters, w, k, order))

    def test_against_all_orders(self):
        for letters, w, k in ORDER_SIZES:
            pieces = brute.all_texts(letters, k)
            if len(pieces) <= 3 or len(pieces) == 4 and letters ** (w + k) <= 300:
                shares = [share_of_order(letters, w, k, order) for order in itertools.permutations(pieces)]
                least = shares[0]
                for one in shares:
                    if brute.is_above(least, one):
                        least = one
                self.assertEqual(best_share(letters, w, k), least, (letters, w, k))
                self.check_order(letters, w, k, least)

    def test_no_drawn_order_is_better(self):
        chance = random.Random(101)
        for letters, w, k in ORDER_SIZES:
            share = best_share(letters, w, k)
            self.assertEqual(share, brute.value(*share))
            self.assertIs(share.__class__, tuple)
            self.check_order(letters, w, k, share)
            pieces = brute.all_texts(letters, k)
            for _ in range(10):
                order = chance.sample(pieces, len(pieces))
                self.assertFalse(brute.is_above(share, order_share(letters, w, k, order)))

    def test_costs_of_an_order_make_its_share(self):
        chance = random.Random(102)
        for letters, w, k in ORDER_SIZES:
            pieces = brute.all_texts(letters, k)
            order = chance.sample(pieces, len(pieces))
            total = sum(cost(letters, w, k, order[:at], piece) for at, piece in enumerate(order))
            self.assertEqual(brute.value(total, letters ** (w + k)), order_share(letters, w, k, order))

    def test_by_names_and_again(self):
        for _ in range(2):
            self.assertEqual(best_share(k=2, w=2, letters=2), (11, 16))
            self.assertEqual(best_order(k=2, w=2, letters=2), best_order(2, 2, 2))


class Cost(unittest.TestCase):
    def test_against_all_texts(self):
        chance = random.Random(103)
        for letters, w, k in ORDER_SIZES:
            pieces = brute.all_texts(letters, k)
            for many in range(len(pieces)):
                lot = brute.some_lot(chance, letters, k, many)
                piece = chance.choice([one for one in pieces if one not in lot])
                expected = cost_by_trying(letters, w, k, lot, piece)
                self.assertEqual(cost(letters, w, k, lot, piece), expected, (letters, w, k, lot, piece))
                self.assertEqual(cost(letters, w, k, tuple(lot), piece), expected)

    def test_all_lots_of_few_pieces(self):
        for letters, w, k in [(2, 1, 1), (2, 2, 1), (2, 1, 2), (2, 2, 2), (2, 3, 2), (3, 2, 1), (4, 2, 1)]:
            pieces = brute.all_texts(letters, k)
            for piece in pieces:
                for many in range(len(pieces)):
                    for lot in itertools.combinations([one for one in pieces if one != piece], many):
                        expected = cost_by_trying(letters, w, k, lot, piece)
                        self.assertEqual(cost(letters, w, k, lot, piece), expected, (letters, w, k, lot, piece))

    def wrong(self, at, lot):
        with self.assertRaises(InvalidLot) as caught:
            cost(2, 2, 2, lot, "ab")
        self.assertEqual(caught.exception.at, at, lot)

    def test_wrong_lots(self):
        for value in brute.any_values() + [{"aa": True}, b"aa", "aa"]:
            if not isinstance(value, (list, tuple)):
                self.wrong(0, value)
            if value not in ("aa", "ab"):
                self.wrong(1, ["aa", value])
                self.wrong(0, (value, "aa"))
        self.wrong(1, ["aa", "aa"])
        self.wrong(2, ("aa", "ba", "ca", "aa"))
        self.wrong(0, ["a"])

    def test_by_names_and_again(self):
        lot = ["ab"]
        for _ in range(2):
            self.assertEqual(cost(piece="aa", lot=lot, k=2, w=2, letters=2), 2)
            self.assertEqual(cost(2, 2, 2, (), "ab"), 7)
        self.assertEqual(lot, ["ab"])


class Prices(unittest.TestCase):
    def near(self, share):
        """The share itself, such near to it, and far from it."""
        p, q = share
        near = [(p, q), (100 * p + 1, 100 * q), (100 * p - 1, 100 * q), (10 ** 9 * p + 1, 10 ** 9 * q),
                (0, 1), (1, 1), (-1, 2), (3, 2), (1, 100), (10 ** 20, 1), (-10 ** 20, 1)]
        return [brute.value(*one) for one in near]

    def test_they_are_told_just_for_shares_up_to_the_best_one(self):
        for letters, w, k in ORDER_SIZES:
            best = best_share(letters, w, k)
            costs = all_costs(letters, w, k)
            for share in self.near(best):
                found = prices(letters, w, k, share)
                if brute.is_above(share, best):
                    self.assertIsNone(found, (letters, w, k, share))
                else:
                    self.assertIs(found.__class__, tuple)
                    self.assertEqual([type(price) for price in found], [int] * 2 ** letters ** k)
                    self.assertTrue(is_right(letters, w, k, share, found, costs), (letters, w, k, share))
                    self.assertIs(prices_hold(letters, w, k, share, found), True)

    def check(self, size, share, paper, costs):
        expected = is_right(*size, share, paper, costs)
        self.assertIs(prices_hold(*size, share, tuple(paper)), expected, (size, share, paper))
        return expected

    def test_papers_with_entries_otherwise(self):
        chance = random.Random(104)
        told = {True: 0, False: 0}
        for size in ORDER_SIZES:
            costs = all_costs(*size)
            best = best_share(*size)
            letters, w, k = size
            for share in [best, brute.value(9 * best[0], 10 * best[1]), (1, 4)]:
                paper = list(prices(*size, share))
                for _ in range(12):
                    row = list(paper)
                    at = chance.choice([0, len(row) - 1, chance.randrange(len(row))])
                    row[at] += chance.choice([-2, -1, 1, 2])
                    told[self.check(size, share, row, costs)] += 1
                    row = list(paper)
                    one, other = chance.randrange(len(row)), chance.randrange(len(row))
                    row[one], row[other] = row[other], row[one]
                    told[self.check(size, share, row, costs)] += 1
                lower = [price - 1 for price in paper]
                self.check(size, share, lower, costs)
                self.check(size, share, [price + 1 for price in paper], costs)
                self.check(size, share, paper[::-1], costs)
                for wrong in [paper, paper[:-1], paper[1:], paper + [0], tuple(paper[:-1]), tuple(paper) + (0,), (), []]:
                    self.assertIs(prices_hold(*size, share, wrong), False)
        self.assertGreater(min(told.values()), 100)

    def test_each_condition_alone(self):
        size = 2, 2, 2
        share = 11, 16
        costs = all_costs(*size)
        paper = list(prices(*size, share))
        self.assertTrue(self.check(size, share, paper, costs))
        self.assertFalse(self.check(size, share, [price + 1 for price in paper], costs))
        self.assertFalse(self.check(size, share, [paper[0] - 1] + paper[1:], costs))
        # Where a lesser share is asked, a paper may be lower.
        self.assertTrue(self.check(size, (1, 2), [price - 3 for price in paper], costs))
        self.assertFalse(self.check(size, (1, 2), [price - 4 for price in paper], costs))
        self.assertTrue(self.check(size, (-5, 1), [-80] + [-80] * 15, costs))
        for at in range(15):
            row = list(paper)
            row[at] = 1000
            self.assertFalse(self.check(size, share, row, costs))

    def test_any_values(self):
        for letters, w, k in [(2, 2, 1), (2, 1, 1), (2, 2, 2)]:
            many = 2 ** letters ** k
            for value in brute.any_values() + [b"", {}]:
                self.assertIs(prices_hold(letters, w, k, (1, 2), value), False)
                self.assertIs(prices_hold(letters, w, k, (-1, 1), value), False)
                if value.__class__ is not int:
                    for at in range(many):
                        row = [-50] * many
                        row[at] = value
                        self.assertIs(prices_hold(letters, w, k, (-100, 1), tuple(row)), False)
            self.assertIs(prices_hold(letters, w, k, (-100, 1), (-50,) * many), True)
            self.assertIs(prices_hold(letters, w, k, (-100, 1), [-50] * many), False)

    def test_by_names_and_again(self):
        for _ in range(2):
            paper = prices(share=(11, 16), k=2, w=2, letters=2)
            self.assertEqual(paper, prices(2, 2, 2, (11, 16)))
            self.assertIs(prices_hold(value=paper, share=(11, 16), k=2, w=2, letters=2), True)
            self.assertIsNone(prices(2, 2, 2, (3, 4)))


class Examples(unittest.TestCase):
    def test_those_of_the_document(self):
        self.assertEqual(
            (best_share(2, 2, 1), best_share(2, 2, 2), order_share(2, 2, 2, ["aa", "ab", "ba", "bb"]),
             order_share(2, 2, 2, ["ab", "aa", "ba", "bb"])),
            ((3, 4), (11, 16), (3, 4), (11, 16)))
        self.assertEqual(
            (cost(2, 2, 2, [], "ab"), cost(2, 2, 2, ["ab"], "aa"),
             prices_hold(2, 2, 2, (11, 16), prices(2, 2, 2, (11, 16))), prices(2, 2, 2, (3, 4))),
            (7, 2, True, None))

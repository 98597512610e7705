import itertools
import random
import unittest

from tests import brute
from windowpicks.errors import InvalidLot
from windowpicks.lots import count_free, free_text, least_for, least_lot, longest_free, lot_for, meets_all, necklace
from windowpicks.lots import necklaces, rule_within
from windowpicks.rules import Rule

# All alphabets and lengths of pieces with at most 32 pieces.
LOT_SIZES = [(letters, k) for letters in (2, 3, 4) for k in range(1, 6) if letters ** k <= 32]
FEW = [(letters, k) for letters, k in LOT_SIZES if letters ** k <= 8]


def has(text, lot):
    return any(piece in text for piece in lot)


def ends_of_free_texts(letters, k, lot, length):
    """How many texts of a length have no piece of the lot, by their last letters (k - 1 at most)."""
    ways = {"": 1}
    for _ in range(length):
        onward = {}
        for end, many in ways.items():
            for letter in "abcd"[:letters]:
                if (end + letter)[-k:] not in lot or len(end + letter) < k:
                    kept = (end + letter)[-(k - 1):] if k > 1 else ""
                    onward[kept] = onward.get(kept, 0) + many
        ways = onward
    return ways


def longest_by_growing(letters, k, lot):
    # A text with more pieces than there are beginnings of pieces comes to one of them twice.
    most = k + letters ** (k - 1)
    if ends_of_free_texts(letters, k, lot, most):
        return None
    return max(length for length in range(most) if ends_of_free_texts(letters, k, lot, length))


def longest_by_trying(letters, k, lot):
    most = k + letters ** (k - 1)
    lengths = [length for length in range(most + 1) if any(not has(x, lot) for x in brute.all_texts(letters, length))]
    return None if lengths[-1] == most else lengths[-1]


def some_lots(chance, letters, k, many):
    pieces = brute.all_texts(letters, k)
    lots = [[], pieces, pieces[::-1]] + [[piece] for piece in pieces]
    lots += [[one for one in pieces if one != piece] for piece in pieces]
    return lots + [brute.some_lot(chance, letters, k, chance.randrange(len(pieces) + 1)) for _ in range(many)]


def turned(text):
    return {text[at:] + text[:at] for at in range(len(text))}


class Free(unittest.TestCase):
    def check(self, letters, k, lot, longest):
        message = letters, k, lot
        self.assertEqual(longest_free(letters, k, lot), longest, message)
        self.assertIs(meets_all(letters, k, lot), longest is not None, message)
        text = free_text(letters, k, lot)
        self.assertIs(text.__class__, str)
        self.assertEqual(set(text) - set("abcd"[:letters]), set(), message)
        if longest is None:
            self.assertGreater(len(text), 0, message)
            self.assertTrue(brute.is_free(k, text, lot), message)
        else:
            self.assertEqual(len(text), longest, message)
            self.assertFalse(has(text, lot), (message, text))

    def test_all_lots_of_few_pieces_against_trying(self):
        for letters, k in [(2, 1), (2, 2), (3, 1), (4, 1)]:
            pieces = brute.all_texts(letters, k)
            for many in range(len(pieces) + 1):
                for lot in itertools.combinations(pieces, many):
                    self.check(letters, k, lot, longest_by_trying(letters, k, lot))

    def test_all_lots_of_eight_pieces(self):
        pieces = brute.all_texts(2, 3)
        for many in range(9):
            for lot in itertools.combinations(pieces, many):
                self.check(2, 3, list(lot), longest_by_growing(2, 3, lot))

    def test_drawn_lots_of_all_sizes(self):
        chance = random.Random(90)
        told = set()
        for letters, k in LOT_SIZES:
            for lot in some_lots(chance, letters, k, 40):
                longest = longest_by_growing(letters, k, lot)
                self.check(letters, k, lot, longest)
                self.check(letters, k, tuple(lot), longest)
                told.add(longest)
        self.assertGreater(len(told), 5)

    def test_lots_that_leave_one_text(self):
        # All pieces but those of a long text without a repeated piece.
        for letters, k, text in [(2, 5, "aaaaabbbbb"), (2, 4, "aabbab"), (3, 3, "abcab"), (4, 2, "abcd"), (3, 2, "aabbcc")]:
            there = [text[at:at + k] for at in range(len(text) - k + 1)]
            lot = [piece for piece in brute.all_texts(letters, k) if piece not in there]
            self.check(letters, k, lot, longest_by_growing(letters, k, lot))

    def test_least_lots_but_for_one_piece(self):
        for letters, k in LOT_SIZES:
            lot = least_lot(letters, k)
            self.check(letters, k, lot, longest_by_growing(letters, k, lot))
            for piece in lot:
                left = [one for one in lot if one != piece]
                self.assertIs(meets_all(letters, k, left), False)
                # Round its necklace goes a text without any other piece of the lot.
                self.check(letters, k, left, None)

    def test_no_piece_and_all_pieces(self):
        for letters, k in LOT_SIZES:
            pieces = brute.all_texts(letters, k)
            self.assertEqual((meets_all(letters, k, []), longest_free(letters, k, ())), (False, None))
            self.assertEqual((meets_all(letters, k, pieces), longest_free(letters, k, pieces)), (True, k - 1))
            self.assertEqual(len(free_text(letters, k, pieces)), k - 1)

    def test_by_names_and_again(self):
        lot = ["aa", "bb", "ab"]
        for _ in range(2):
            self.assertIs(meets_all(lot=lot, k=2, letters=2), True)
            self.assertEqual(longest_free(lot=lot, k=2, letters=2), 2)
            self.assertEqual(free_text(lot=tuple(lot), k=2, letters=2), "ba")
            self.assertEqual(free_text(2, 2, ["aa"]), free_text(lot=["aa"], letters=2, k=2))
            self.assertEqual(count_free(length=5, lot=["aa"], k=2, letters=2), 13)
        self.assertEqual(lot, ["aa", "bb", "ab"])


class CountFree(unittest.TestCase):
    def test_against_all_texts_up_to_eight_letters(self):
        chance = random.Random(91)
        for letters, k in LOT_SIZES:
            lots = some_lots(chance, letters, k, 3)
            for lot in [lots[0], lots[1]] + chance.sample(lots, 3):
                for length in range(9 if letters == 2 else 6):
                    many = sum(not has(text, lot) for text in brute.all_texts(letters, length))
                    self.assertEqual(count_free(letters, k, lot, length), many, (letters, k, lot, length))

    def test_lengths_to_sixty(self):
        chance = random.Random(92)
        for letters, k in LOT_SIZES:
            for lot in some_lots(chance, letters, k, 2)[:2] + [brute.some_lot(chance, letters, k, 2)]:
                for length in list(range(12)) + [30, 59, 60]:
                    ways = ends_of_free_texts(letters, k, lot, length)
                    self.assertEqual(count_free(letters, k, lot, length), sum(ways.values()), (letters, k, lot, length))
                    self.assertEqual(count_free(letters, k, tuple(lot), length), sum(ways.values()))

    def test_known_numbers(self):
        for length in range(61):
            self.assertEqual(count_free(2, 2, [], length), 2 ** length)
            self.assertEqual(count_free(4, 1, ("a",), length), 3 ** length)
            self.assertEqual(count_free(2, 1, ["a", "b"], length), int(length == 0))
            self.assertEqual(count_free(2, 2, ["ab"], length), length + 1)
            self.assertEqual(count_free(3, 3, brute.all_texts(3, 3), length), 3 ** length if length < 3 else 0)


class WrongLots(unittest.TestCase):
    def works(self, letters, k):
        return [
            lambda lot: meets_all(letters, k, lot),
            lambda lot: longest_free(letters, k, lot),
            lambda lot: free_text(letters, k, lot),
            lambda lot: count_free(letters, k, lot, 7),
            lambda lot: count_free(letters, k, lot, 0),
            lambda lot: rule_within(letters, 2, k, lot),
        ]

    def wrong(self, at, letters, k, lot):
        for work in self.works(letters, k):
            with self.assertRaises(InvalidLot) as caught:
                work(lot)
            self.assertEqual(caught.exception.at, at, lot)

    def test_what_is_no_sequence(self):
        for value in brute.any_values() + [{"aa": True}, {"aa"}, b"aa", "aa"]:
            if not isinstance(value, (list, tuple)):
                self.wrong(0, 2, 2, value)

    def test_what_is_no_piece(self):
        for value in brute.any_values() + [["aa"], ("aa",), b"aa", "aA", "a", "aaa", "", "ac", "ca", "a\n", " aa", "cd"]:
            if value != "ab":
                self.wrong(0, 2, 2, [value])
                self.wrong(1, 2, 2, ("bb", value))
                self.wrong(2, 2, 2, ["ab", "aa", value, value])
                self.wrong(0, 2, 2, (value, "aa", "aa"))

    def test_a_piece_that_was_there_before(self):
        self.wrong(1, 2, 2, ["aa", "aa"])
        self.wrong(2, 2, 2, ("aa", "ab", "aa"))
        self.wrong(4, 2, 2, ["aa", "ab", "ba", "bb", "ba"])
        self.wrong(2, 2, 2, ("aa", "ab", "aa", "zz"))
        self.wrong(32, 2, 5, brute.all_texts(2, 5) + ["aaaaa"])

    def test_the_alphabet_and_the_length_of_pieces(self):
        for letters, k in [(2, 1), (3, 1), (4, 1), (2, 4), (3, 3), (4, 2)]:
            self.wrong(1, letters, k, ["a" * k, "a" * (k - 1) + "abcde"[letters]])
            self.wrong(1, letters, k, ["a" * k, "a" * (k + 1)])
            self.wrong(1, letters, k, ["a" * k, "a" * (k - 1)])
            for work in self.works(letters, k):
                work(["a" * k])

    def test_somewhat_beyond_the_limits(self):
        self.wrong(1, 2, 6, ["abbaba", "abbabc"])
        self.wrong(64, 4, 3, brute.all_texts(4, 3) + ["aaa"])
        self.assertEqual(longest_free(2, 6, brute.all_texts(2, 6)), 5)


class Necklaces(unittest.TestCase):
    def test_texts_of_one_to_nine_letters(self):
        for letters, most in [(2, 9), (3, 5), (4, 4)]:
            for length in range(1, most + 1):
                for text in brute.all_texts(letters, length):
                    found = necklace(text)
                    self.assertEqual(found, tuple(sorted(turned(text))))
                    self.assertIs(found.__class__, tuple)
                    if len(found) < 10:
                        self.assertEqual({necklace(one) for one in found}, {found})
        chance = random.Random(93)
        for _ in range(100):
            text = brute.some_text(chance, 4, 9)
            self.assertEqual(necklace(text), tuple(sorted(turned(text))))

    def test_their_number(self):
        for letters, most in [(2, 8), (3, 5), (4, 4)]:
            for k in range(1, most + 1):
                self.assertEqual(necklaces(letters, k), len({necklace(text) for text in brute.all_texts(letters, k)}))

    def test_by_names_and_again(self):
        for _ in range(2):
            self.assertEqual(necklace(piece="aba"), ("aab", "aba", "baa"))
            self.assertEqual(necklace("abab"), ("abab", "baba"))
            self.assertEqual(necklace("b"), ("b",))
            self.assertEqual(necklaces(k=3, letters=2), 4)


class LeastLots(unittest.TestCase):
    def test_they_meet_all_with_one_piece_of_each_necklace(self):
        for letters, k in LOT_SIZES + [(2, 6), (2, 7), (3, 4), (4, 3)]:
            lot = least_lot(letters, k)
            self.assertIs(lot.__class__, tuple)
            self.assertEqual(lot, tuple(sorted(set(lot))))
            self.assertEqual(set(lot) - set(brute.all_texts(letters, k)), set())
            self.assertEqual(len(lot), len({min(turned(text)) for text in brute.all_texts(letters, k)}))
            self.assertEqual(len(lot), necklaces(letters, k))
            self.assertIsNotNone(longest_by_growing(letters, k, lot))

    def test_least_for_against_all_lots(self):
        for letters, k in FEW:
            pieces = brute.all_texts(letters, k)
            least = {}
            for many in range(len(pieces) + 1):
                for lot in itertools.combinations(pieces, many):
                    longest = longest_by_growing(letters, k, lot)
                    for length in range(k, 13):
                        if longest is not None and longest < length:
                            least.setdefault(length, many)
            for length in range(k, 13):
                self.assertEqual(least_for(letters, k, length), least[length], (letters, k, length))
                self.check_lot_for(letters, k, length, least[length])

    def check_lot_for(self, letters, k, length, many):
        lot = lot_for(letters, k, length)
        self.assertIs(lot.__class__, tuple)
        self.assertEqual(len(lot), many)
        self.assertEqual(lot, tuple(sorted(set(lot))))
        self.assertEqual(set(lot) - set(brute.all_texts(letters, k)), set())
        self.assertEqual(ends_of_free_texts(letters, k, lot, length), {}, (letters, k, length, lot))
        if length < 7 and letters < 4:
            self.assertTrue(all(has(text, lot) for text in brute.all_texts(letters, length)))

    def test_the_length_of_a_piece_asks_for_all(self):
        for letters, k in FEW:
            self.assertEqual(lot_for(letters, k, k), tuple(brute.all_texts(letters, k)))
            self.assertEqual(least_for(letters, k, 12), necklaces(letters, k))

    def test_somewhat_beyond_the_limits(self):
        self.assertEqual(least_for(3, 2, 12), 6)
        self.check_lot_for(3, 2, 20, 6)
        self.check_lot_for(2, 4, 12, 6)

    def test_by_names_and_again(self):
        for _ in range(2):
            self.assertEqual(least_lot(k=3, letters=2), least_lot(2, 3))
            self.assertEqual(least_for(length=3, k=2, letters=2), 3)
            self.assertEqual(lot_for(length=3, k=2, letters=2), lot_for(2, 2, 3))


class RuleWithin(unittest.TestCase):
    def check(self, letters, w, k, lot):
        found = rule_within(letters, w, k, lot)
        windows = brute.all_texts(letters, w + k - 1)
        if any(not has(window, lot) for window in windows):
            self.assertIsNone(found, (letters, w, k, lot))
            return False
        self.assertIs(found.__class__, Rule)
        self.assertEqual((found.letters, found.w, found.k), (letters, w, k))
        for window, at in zip(windows, found.table):
            self.assertIn(window[at:at + k], lot)
        return True

    def test_all_lots_of_few_pieces(self):
        for letters, w, k in [(2, 1, 1), (2, 2, 1), (2, 2, 2), (2, 3, 2), (3, 2, 1), (2, 5, 2), (2, 4, 2)]:
            pieces = brute.all_texts(letters, k)
            told = set()
            for many in range(len(pieces) + 1):
                for lot in itertools.combinations(pieces, many):
                    told.add(self.check(letters, w, k, lot))
            self.assertEqual(told, {True, False})

    def test_drawn_lots_of_all_sizes(self):
        chance = random.Random(94)
        for letters, w, k in brute.SIZES:
            if letters ** k <= 32:
                for lot in [(), brute.all_texts(letters, k), least_lot(letters, k)]:
                    self.check(letters, w, k, lot)
                for _ in range(4):
                    many = chance.randrange(letters ** k // 2, letters ** k + 1)
                    self.check(letters, w, k, brute.some_lot(chance, letters, k, many))

    def test_least_lots_with_windows_that_are_long_enough(self):
        for letters, k, w in [(2, 1, 2), (2, 2, 3), (2, 3, 4), (3, 1, 3), (3, 2, 4), (4, 1, 4)]:
            lot = lot_for(letters, k, w + k - 1)
            self.assertTrue(self.check(letters, w, k, lot))

    def test_by_names_and_again(self):
        lot = ["aa", "bb", "ab"]
        for _ in range(2):
            self.assertIsNone(rule_within(lot=["aa"], k=2, w=2, letters=2))
            self.assertEqual(rule_within(lot=lot, k=2, w=2, letters=2), rule_within(2, 2, 2, tuple(lot)))
        self.assertEqual(lot, ["aa", "bb", "ab"])


class Examples(unittest.TestCase):
    def test_those_of_the_document(self):
        self.assertEqual(
            (meets_all(2, 2, ["aa", "bb", "ab"]), longest_free(2, 2, ["aa", "bb", "ab"]),
             free_text(2, 2, ["aa", "bb", "ab"]), longest_free(2, 2, ["aa"])),
            (True, 2, "ba", None))
        self.assertEqual((count_free(2, 2, ["aa"], 5), count_free(2, 2, [], 60) == 2 ** 60), (13, True))
        self.assertEqual(
            (necklace("aba"), necklaces(2, 3), len(least_lot(2, 3)), least_for(2, 2, 2), least_for(2, 2, 3),
             rule_within(2, 2, 2, ["aa"])),
            (("aab", "aba", "baa"), 4, 4, 4, 3, None))

import itertools
import random
import unittest

from tests import brute
from windowpicks.errors import InvalidLetters, InvalidOrder, InvalidRule, InvalidText
from windowpicks.rules import Rule, is_forward, order_of


class RuleCase(unittest.TestCase):
    def wrong(self, word, letters, w, k, table):
        with self.assertRaises(InvalidRule) as caught:
            Rule(letters, w, k, table)
        self.assertEqual(caught.exception.word, word, (letters, w, k, table))


class Made(RuleCase):
    def test_attributes_are_the_arguments(self):
        for table in [[0, 1, 1, 0], (0, 1, 1, 0)]:
            rule = Rule(2, 2, 1, table)
            self.assertEqual((rule.letters, rule.w, rule.k, rule.table), (2, 2, 1, (0, 1, 1, 0)))
            self.assertIs(rule.table.__class__, tuple)

    def test_the_same_by_names(self):
        rule = Rule(table=[0, 2] * 8, k=2, w=3, letters=2)
        self.assertEqual((rule.letters, rule.w, rule.k, rule.table), (2, 3, 2, (0, 2) * 8))

    def test_later_changes_of_the_table(self):
        table = [0, 0, 1, 0]
        rule = Rule(2, 2, 1, table)
        table[0] = 1
        table.append(7)
        self.assertEqual(rule.table, (0, 0, 1, 0))
        self.assertEqual(rule.offset("aa"), 0)

    def test_the_table_passed_stays(self):
        table = [1, 0, 1, 0]
        Rule(2, 2, 1, table)
        self.assertEqual(table, [1, 0, 1, 0])

    def test_all_sizes(self):
        for letters, w, k in brute.SIZES:
            size = letters ** (w + k - 1)
            rule = Rule(letters, w, k, [w - 1] * size)
            self.assertEqual(rule.table, (w - 1,) * size)
            self.wrong("table", letters, w, k, [w - 1] * (size - 1))
            self.wrong("table", letters, w, k, [w - 1] * (size + 1))
            self.wrong("table", letters, w, k, [w - 1] * (size - 1) + [w])
            self.wrong("table", letters, w, k, [-1] + [0] * (size - 1))

    def test_more_windows_than_the_limit_are_no_error(self):
        self.assertEqual(Rule(2, 5, 4, [4] * 256).table[255], 4)
        self.assertEqual(Rule(2, 5, 4, [4] * 256).offset("b" * 8), 4)
        self.assertEqual(Rule(3, 5, 4, [4] * 6561).offset("c" * 8), 4)

    def test_numbers_just_outside(self):
        self.wrong("letters", 1, 2, 1, [0])
        self.wrong("letters", 5, 2, 1, [0] * 25)
        self.wrong("w", 2, 0, 1, [0])
        self.wrong("w", 2, 6, 1, [0] * 64)
        self.wrong("k", 2, 2, 0, [0, 0])
        self.wrong("k", 2, 2, 5, [0] * 64)

    def test_numbers_just_inside(self):
        for letters, w, k in [(2, 1, 1), (4, 1, 1), (2, 5, 1), (2, 1, 4)]:
            self.assertEqual(len(Rule(letters, w, k, [0] * letters ** (w + k - 1)).table), letters ** (w + k - 1))

    def test_any_values(self):
        for value in brute.any_values():
            if value.__class__ is not int or value != 2:
                self.wrong("letters", value, 2, 1, [0, 0, 1, 0])
                if value.__class__ is not int or value != 1:
                    self.wrong("w", 2, value, 2, [0] * 8)
                    self.wrong("k", 2, 2, value, [0] * 8)
            self.wrong("table", 2, 2, 1, value)
            if value.__class__ is not int or value not in (0, 1):
                for at in range(4):
                    table = [0, 1, 1, 0]
                    table[at] = value
                    self.wrong("table", 2, 2, 1, table)
                    self.wrong("table", 2, 2, 1, tuple(table))

    def test_a_bool_is_no_integer(self):
        self.wrong("w", 2, True, 2, [0] * 4)
        self.wrong("k", 2, 2, True, [0] * 4)
        self.wrong("table", 2, 2, 1, [0, 0, True, 0])
        self.wrong("table", 2, 2, 1, [0, 0, 1, False])

    def test_a_table_that_is_no_sequence(self):
        for table in ["0010", {0: 0, 1: 0, 2: 1, 3: 0}, range(2), 4, None]:
            self.wrong("table", 2, 2, 1, table)

    def test_the_first_wrong_argument_is_told(self):
        right = (2, 2, 1, [0, 0, 1, 0])
        for wrong in itertools.product([False, True], repeat=4):
            if any(wrong):
                arguments = [None if is_wrong else one for one, is_wrong in zip(right, wrong)]
                self.wrong(["letters", "w", "k", "table"][wrong.index(True)], *arguments)

    def test_not_iterable(self):
        rule = Rule(2, 2, 1, [0, 0, 1, 0])
        with self.assertRaises(TypeError):
            iter(rule)
        with self.assertRaises(TypeError):
            list(rule)
        with self.assertRaises(TypeError):
            0 in rule


class Offset(unittest.TestCase):
    def wrong(self, at, rule, window):
        with self.assertRaises(InvalidLetters) as caught:
            rule.offset(window)
        self.assertEqual(caught.exception.at, at, window)

    def test_all_windows(self):
        chance = random.Random(5)
        for letters, w, k in brute.SIZES:
            for rule in brute.some_rules(chance, letters, w, k, 2):
                windows = brute.all_texts(letters, w + k - 1)
                self.assertEqual(windows, sorted(windows))
                self.assertEqual(tuple(rule.offset(window) for window in windows), rule.table)

    def test_by_name_and_again(self):
        rule = Rule(2, 2, 1, [0, 0, 1, 0])
        other = Rule(2, 2, 1, [1, 1, 0, 1])
        self.assertEqual(rule.offset(window="ba"), 1)
        self.assertEqual(other.offset("ba"), 0)
        self.assertEqual(rule.offset("ba"), 1)

    def test_another_length_or_no_string(self):
        rule = Rule(3, 2, 2, [0] * 27)
        for window in ["", "a", "aa", "aaaa", "aaaaaa", "xx", "aadd"]:
            self.wrong(0, rule, window)
        for value in brute.any_values() + [b"aaa", ["a", "a", "a"], ("a", "b", "c")]:
            self.wrong(0, rule, value)

    def test_the_first_character_that_is_no_letter(self):
        rule = Rule(3, 2, 2, [0] * 27)
        for window, at in [("daa", 0), ("ada", 1), ("aad", 2), ("add", 1), ("ddd", 0), ("abA", 2), ("a\nb", 1),
                           ("ab ", 2), ("a\u00e4b", 1), ("cc1", 2)]:
            self.wrong(at, rule, window)
        self.wrong(0, Rule(2, 1, 1, [0, 0]), "c")
        self.wrong(1, Rule(2, 2, 1, [0] * 4), "ac")
        self.wrong(1, Rule(4, 2, 1, [0] * 16), "de")


class Turned(unittest.TestCase):
    def test_against_windows_and_texts_read_backwards(self):
        chance = random.Random(6)
        for letters, w, k in brute.SIZES:
            for rule in brute.some_rules(chance, letters, w, k, 2):
                turned = rule.turned
                self.assertIsInstance(turned, Rule)
                self.assertEqual((turned.letters, turned.w, turned.k), (letters, w, k))
                for window in brute.all_texts(letters, w + k - 1):
                    at = rule.offset(window[::-1])
                    back = turned.offset(window)
                    self.assertEqual(back, w - 1 - at)
                    self.assertEqual(window[back:back + k][::-1], window[::-1][at:at + k])
                text = brute.some_text(chance, letters, 40)
                back = sorted(40 - k - place for place in brute.places(rule, text[::-1]))
                self.assertEqual(brute.places(turned, text), tuple(back))
                self.assertEqual(turned.turned, rule)

    def test_the_rule_stays(self):
        rule = Rule(2, 2, 1, [0, 0, 1, 0])
        self.assertEqual(str(rule.turned), "letters 2 w 2 k 1 table 1011")
        self.assertEqual(str(rule), "letters 2 w 2 k 1 table 0010")
        self.assertEqual(rule.turned, rule.turned)


class ByOrder(unittest.TestCase):
    def wrong(self, letters, w, k, order, error=InvalidOrder, word=None):
        for arguments in [(), (True,), (False,)]:
            with self.assertRaises(error) as caught:
                Rule.by_order(letters, w, k, order, *arguments)
            if word is not None:
                self.assertEqual(caught.exception.word, word)

    def test_first_and_last_of_equal_ones(self):
        chance = random.Random(7)
        for letters, w, k in brute.SIZES:
            for _ in range(3):
                order = brute.all_texts(letters, k)
                chance.shuffle(order)
                first = brute.table_by_order(letters, w, k, order)
                last = brute.table_by_order(letters, w, k, order, True)
                self.assertEqual(Rule.by_order(letters, w, k, order).table, first)
                self.assertEqual(Rule.by_order(letters, w, k, tuple(order), False).table, first)
                self.assertEqual(Rule.by_order(letters, w, k, order, True).table, last)
                rule = Rule.by_order(letters, w, k, order)
                self.assertEqual((rule.letters, rule.w, rule.k), (letters, w, k))

    def test_last_picks_the_last_one(self):
        self.assertEqual(Rule.by_order(2, 3, 1, ["b", "a"], last=True).table, (2, 2, 1, 2, 0, 2, 1, 2))
        self.assertEqual(Rule.by_order(2, 3, 1, ["b", "a"]).table, (0, 2, 1, 1, 0, 0, 0, 0))

    def test_by_names(self):
        rule = Rule.by_order(last=True, order=("b", "a"), k=1, w=2, letters=2)
        self.assertEqual(rule.table, brute.table_by_order(2, 2, 1, ["b", "a"], True))

    def test_the_order_passed_stays_as_it_is(self):
        order = ["bb", "ab", "ba", "aa"]
        rule = Rule.by_order(2, 2, 2, order)
        self.assertEqual(order, ["bb", "ab", "ba", "aa"])
        order.reverse()
        self.assertEqual(rule.table, brute.table_by_order(2, 2, 2, ["bb", "ab", "ba", "aa"]))

    def test_every_other_order(self):
        pieces = ["aa", "ab", "ba", "bb"]
        for order in [pieces[:3], pieces[1:], pieces + ["aa"], pieces[:3] + ["aa"], pieces[:3] + ["ac"],
                      pieces[:3] + ["b"], pieces[:3] + ["bbb"], pieces[:3] + [""], pieces[:3] + ["BB"],
                      pieces + ["b"], pieces + [None], pieces * 2, ["a", "b"], ["aa"] * 4,
                      "aaabbabb", {piece: 0 for piece in pieces}, set(pieces), iter(pieces)]:
            self.wrong(2, 2, 2, order)
        for value in brute.any_values():
            self.wrong(2, 2, 2, value)
            self.wrong(2, 2, 1, value)
            self.wrong(2, 2, 2, pieces[:3] + [value])
            self.wrong(2, 2, 2, [value] + pieces[1:])
        self.wrong(2, 2, 1, "ab")
        self.wrong(2, 2, 1, [["a"], ["b"]])

    def test_the_first_three_come_first(self):
        for order in [["a", "b"], None, "ab", []]:
            self.wrong(1, 2, 1, order, InvalidRule, "letters")
            self.wrong(5, 9, 9, order, InvalidRule, "letters")
            self.wrong(2, 0, 1, order, InvalidRule, "w")
            self.wrong(2, 6, 0, order, InvalidRule, "w")
            self.wrong(2, 2, 0, order, InvalidRule, "k")
            self.wrong(2, 2, 5, order, InvalidRule, "k")
        for value in brute.any_values():
            if value.__class__ is not int or value not in (1, 2):
                self.wrong(value, value, value, ["a", "b"], InvalidRule, "letters")
                self.wrong(2, value, value, ["a", "b"], InvalidRule, "w")
                self.wrong(2, 2, value, ["a", "b"], InvalidRule, "k")


class Texts(unittest.TestCase):
    def wrong_text(self, text):
        with self.assertRaises(InvalidText) as caught:
            Rule.read(text)
        self.assertEqual(caught.exception.at, 0, text)

    def wrong_rule(self, word, text):
        with self.assertRaises(InvalidRule) as caught:
            Rule.read(text)
        self.assertEqual(caught.exception.word, word, text)

    def test_written_and_read(self):
        chance = random.Random(8)
        for letters, w, k in brute.SIZES:
            for rule in brute.some_rules(chance, letters, w, k, 2):
                digits = "".join(str(at) for at in rule.table)
                self.assertEqual(str(rule), f"letters {letters} w {w} k {k} table {digits}")
                again = Rule.read(str(rule))
                self.assertEqual((again.letters, again.w, again.k, again.table), (letters, w, k, rule.table))
        self.assertEqual(Rule.read(text="letters 2 w 2 k 1 table 0010").table, (0, 0, 1, 0))

    def test_any_values(self):
        for value in brute.any_values() + [b"letters 2 w 2 k 1 table 0010"]:
            self.wrong_text(value)

    def test_words_left_out_twice_or_otherwise(self):
        words = "letters 2 w 2 k 1 table 0010".split(" ")
        for at in range(8):
            self.wrong_text(" ".join(words[:at] + words[at + 1:]))
            self.wrong_text(" ".join(words[:at] + [words[at]] + words[at:]))
            for other in ["x", "", "Letters", "W", "K", "Table", "tables", "-", "1 1", "w w", "k\n", "\n1", "\t"]:
                self.wrong_text(" ".join(words[:at] + [other] + words[at + 1:]))
        for text in ["w 2 letters 2 k 1 table 0010", "letters 2 k 1 w 2 table 0010", "letters 2 w 2 k 1 table 0010 0",
                     "letters 2 w 2 k 1 table 00 10", "2 letters 2 w 1 k 0010 table", "letters 2 w 2 table 0010 k 1",
                     "letters 2 w 2 k 1", "letters 2 w 2 k 1 table"]:
            self.wrong_text(text)

    def test_blanks_and_newlines(self):
        text = "letters 2 w 2 k 1 table 0010"
        for at in [at for at, one in enumerate(text) if one == " "]:
            for between in ["", "  ", "\n", "\t", " \n", "_", ","]:
                self.wrong_text(text[:at] + between + text[at + 1:])
        for other in [" " + text, text + " ", text + "\n", "\n" + text, text + "\t", text.upper()]:
            self.wrong_text(other)

    def test_numbers(self):
        for number in ["02", "002", "+2", "-2", "2.", "2.0", "0x2", "two", "", " 2", "100", "002", "2_0", "00", "1e1",
                       "\u00b2", "\u0662", "222"]:
            self.wrong_text(f"letters {number} w 2 k 1 table 0010")
            self.wrong_text(f"letters 2 w {number} k 1 table 0010")
            self.wrong_text(f"letters 2 w 2 k {number} table 0010")
        for number in ["0", "10", "99"]:
            self.wrong_rule("letters", f"letters {number} w 2 k 1 table 0010")
            self.wrong_rule("w", f"letters 2 w {number} k 1 table 0010")
            self.wrong_rule("k", f"letters 2 w 2 k {number} table 0010")

    def test_tables(self):
        for table in ["", "001x", "-001", "00 1", "00.1", "0,0,1,0", "001\u00b2", "001\u0661", "001\n", "+010"]:
            self.wrong_text(f"letters 2 w 2 k 1 table {table}")
        for table in ["0", "001", "00100", "0020", "9999", "0" * 300]:
            self.wrong_rule("table", f"letters 2 w 2 k 1 table {table}")

    def test_the_form_comes_first(self):
        self.wrong_text("letters 9 w 9 k 9 table x")
        self.wrong_text("letters 9 w 09 k 9 table 1")
        self.wrong_rule("letters", "letters 1 w 6 k 5 table 9")
        self.wrong_rule("letters", "letters 5 w 0 k 0 table 0")
        self.wrong_rule("w", "letters 2 w 6 k 5 table 9")
        self.wrong_rule("k", "letters 2 w 5 k 5 table 9")
        self.wrong_rule("table", "letters 2 w 5 k 4 table 9")


class Equal(unittest.TestCase):
    def test_equal_just_where_texts_are(self):
        rules = brute.all_rules(2, 2, 1) + brute.all_rules(2, 1, 2) + brute.all_rules(2, 1, 1)
        rules += [Rule(4, 1, 1, [0] * 4), Rule(3, 1, 1, [0] * 3), Rule(2, 3, 1, [0] * 8), Rule(2, 2, 2, [0] * 8),
                  Rule(2, 1, 3, [0] * 8)]
        for one in rules:
            for other in rules:
                self.assertIs(one == other, str(one) == str(other))
                self.assertIs(one != other, str(one) != str(other))

    def test_equal_to_another_object(self):
        for letters, w, k in brute.SIZES:
            size = letters ** (w + k - 1)
            rule = Rule(letters, w, k, [0] * size)
            self.assertTrue(rule == Rule(letters, w, k, (0,) * size))
            if w > 1:
                self.assertFalse(rule == Rule(letters, w, k, [0] * (size - 1) + [1]))
                self.assertFalse(rule == Rule(letters, w, k, [1] + [0] * (size - 1)))

    def test_equal_to_nothing_else(self):
        class Likeness:
            letters, w, k, table = 2, 2, 1, (0, 0, 1, 0)

            def __str__(self):
                return "letters 2 w 2 k 1 table 0010"

        rule = Rule(2, 2, 1, [0, 0, 1, 0])
        others = [value for value in brute.any_values() if not isinstance(value, Rule)]
        for other in others + [str(rule), rule.table, (2, 2, 1, rule.table), Likeness(), Rule]:
            self.assertIs(rule == other, False)
            self.assertIs(other == rule, False)
            self.assertIs(rule != other, True)


class Forward(unittest.TestCase):
    def test_against_all_pairs_of_neighbouring_windows(self):
        chance = random.Random(9)
        rules = brute.all_rules(2, 2, 1) + brute.all_rules(2, 1, 2) + brute.some_rules(chance, 2, 3, 1, 300)
        rules += brute.some_rules(chance, 2, 2, 2, 60) + brute.some_rules(chance, 3, 3, 1, 20)
        for letters, w, k in brute.SIZES:
            order = brute.all_texts(letters, k)
            chance.shuffle(order)
            table = list(brute.table_by_order(letters, w, k, order))
            rules.append(Rule(letters, w, k, table))
            rules.append(Rule(letters, w, k, brute.table_by_order(letters, w, k, order, True)))
            table[chance.randrange(len(table))] = chance.randrange(w)
            rules.append(Rule(letters, w, k, table))
        told = [self.compare(rule) for rule in rules]
        self.assertGreater(told.count(True), 50)
        self.assertGreater(told.count(False), 50)

    def compare(self, rule):
        table = brute.offsets(rule)
        pairs = [(one, other) for one in table for other in (one[1:] + more for more in "abcd"[:rule.letters])]
        expected = all(table[one] <= 1 + table[other] for one, other in pairs)
        self.assertIs(is_forward(rule), expected, str(rule))
        return expected

    def test_by_name(self):
        self.assertIs(is_forward(rule=Rule(2, 3, 1, [2, 0, 0, 0, 0, 0, 0, 0])), False)
        self.assertIs(is_forward(rule=Rule(2, 3, 1, [1, 0, 0, 0, 0, 0, 0, 0])), True)


class OrderOf(unittest.TestCase):
    def check(self, rule, orders):
        """Compare with trying all orders; `orders` holds the tables that they make."""
        order = order_of(rule)
        if rule.table not in orders:
            self.assertIsNone(order, str(rule))
        else:
            self.assertIs(order.__class__, tuple)
            self.assertEqual(sorted(order), brute.all_texts(rule.letters, rule.k))
            self.assertEqual(brute.table_by_order(rule.letters, rule.w, rule.k, order), rule.table)
            self.assertEqual(order_of(rule), order)

    def tables(self, letters, w, k):
        orders = itertools.permutations(brute.all_texts(letters, k))
        return {brute.table_by_order(letters, w, k, order) for order in orders}

    def test_all_small_rules(self):
        for letters, w, k in [(2, 1, 1), (2, 1, 2), (2, 2, 1), (2, 3, 1), (2, 2, 2), (3, 2, 1)]:
            orders = self.tables(letters, w, k)
            for rule in brute.all_rules(letters, w, k):
                self.check(rule, orders)

    def test_rules_near_those_by_an_order(self):
        chance = random.Random(10)
        for letters, w, k in [(2, 3, 2), (2, 4, 1), (2, 5, 1), (3, 3, 1), (4, 2, 1), (4, 3, 1), (2, 4, 2)]:
            orders = self.tables(letters, w, k)
            for table in sorted(orders):
                self.check(Rule(letters, w, k, table), orders)
                for _ in range(3):
                    near = list(table)
                    near[chance.randrange(len(near))] = chance.randrange(w)
                    self.check(Rule(letters, w, k, near), orders)

    def test_the_last_of_equal_ones_has_none(self):
        for letters, w, k in brute.SIZES:
            last = Rule.by_order(letters, w, k, brute.all_texts(letters, k), True)
            self.assertEqual(order_of(last) is None, w > 1)

    def test_a_rule_made_by_an_order(self):
        chance = random.Random(11)
        for letters, w, k in brute.SIZES:
            for _ in range(3):
                order = brute.all_texts(letters, k)
                chance.shuffle(order)
                rule = Rule.by_order(letters, w, k, order)
                self.assertEqual(Rule.by_order(letters, w, k, order_of(rule=rule)), rule)

    def test_a_ring_of_pieces_has_none(self):
        # Of each two letters one is picked: a ahead of b, b ahead of c, c ahead of a.
        self.assertIsNone(order_of(Rule(3, 2, 1, [0, 0, 1, 1, 0, 0, 0, 1, 0])))
        self.assertEqual(order_of(Rule(3, 2, 1, [0, 0, 0, 1, 0, 0, 1, 1, 0])), ("a", "b", "c"))


class Examples(unittest.TestCase):
    def test_those_of_the_document(self):
        rule = Rule.by_order(2, 2, 1, ["a", "b"])
        self.assertEqual(rule.table, (0, 0, 1, 0))
        self.assertEqual(
            (rule.offset("ba"), str(rule), is_forward(rule), order_of(rule), str(rule.turned)),
            (1, "letters 2 w 2 k 1 table 0010", True, ("a", "b"), "letters 2 w 2 k 1 table 1011"))
        self.assertIs(is_forward(Rule(2, 3, 1, [2, 0, 0, 0, 0, 0, 0, 0])), False)
        self.assertIsNone(order_of(Rule(2, 2, 1, [1, 0, 1, 0])))
        lex = Rule.by_order(2, 2, 2, ["aa", "ab", "ba", "bb"])
        self.assertEqual(lex.table, (0, 0, 0, 0, 1, 1, 1, 0))

    def test_again_behind_other_calls(self):
        rule = Rule.by_order(2, 3, 2, ["ba", "aa", "bb", "ab"])
        ahead = (rule.table, str(rule), rule.turned, is_forward(rule), order_of(rule))
        Rule.by_order(3, 2, 1, ["c", "a", "b"]).turned
        with self.assertRaises(InvalidOrder):
            Rule.by_order(2, 3, 2, ["ba"])
        order_of(Rule(2, 2, 1, [1, 0, 1, 0]))
        self.assertEqual((rule.table, str(rule), rule.turned, is_forward(rule), order_of(rule)), ahead)

import random
import unittest

from tests import brute
from windowpicks.common import common, least_common
from windowpicks.desk import Desk
from windowpicks.errors import InvalidCommand, InvalidEdit, InvalidLetters, InvalidRule, InvalidText
from windowpicks.live import Live
from windowpicks.picks import picks
from windowpicks.rules import Rule
from windowpicks.shares import even_share, greatest_share, least_share

RULE = Rule.by_order(2, 2, 1, ["a", "b"])
BEGIN = "rule " + str(RULE)
OTHERS = ["put 0 a", "drop 0 1", "change 0 a", "picks", "shares", "common ab", "least", "undo"]


def desk_with(text, rule=RULE):
    desk = Desk()
    desk.say("rule " + str(rule))
    if text:
        desk.say("put 0 " + text)
    return desk


class DeskCase(unittest.TestCase):
    def wrong(self, desk, command, error=InvalidCommand):
        live = desk.live
        ahead = None if live is None else (live.text, live.picks, len(live))
        with self.assertRaises(error) as caught:
            desk.say(command)
        self.assertIs(caught.exception.__class__, error, command)
        self.assertIs(desk.live, live)
        if live is not None:
            self.assertEqual((live.text, live.picks, len(live)), ahead)
        return caught.exception


class Commands(DeskCase):
    def test_rule(self):
        desk = Desk()
        self.assertIsNone(desk.live)
        for letters, w, k in brute.SIZES:
            rule = Rule(letters, w, k, [w - 1] * letters ** (w + k - 1))
            self.assertEqual(desk.say("rule " + str(rule)), str(letters ** (w + k - 1)))
            self.assertIs(desk.live.__class__, Live)
            self.assertEqual((desk.live.text, desk.live.rule, len(desk.live)), ("", rule, 0))

    def test_a_new_rule_begins_anew(self):
        desk = desk_with("abba")
        live = desk.live
        self.assertEqual(desk.say(BEGIN), "4")
        self.assertIsNot(desk.live, live)
        self.assertEqual((desk.live.text, len(desk.live)), ("", 0))
        self.assertEqual((live.text, len(live)), ("abba", 1))
        self.assertEqual(desk.say("undo"), "nothing")
        self.assertEqual(desk.say("picks"), "none")

    def test_edits(self):
        desk = desk_with("")
        self.assertEqual(desk.say("put 0 baba"), "2")
        self.assertEqual(desk.say("put 3 b"), "3")
        self.assertEqual(desk.live.text, "babba")
        self.assertEqual(desk.say("drop 0 2"), "2")
        self.assertEqual(desk.live.text, "bba")
        self.assertEqual(desk.say("change 1 a"), "1")
        self.assertEqual(desk.live.text, "baa")
        self.assertEqual(desk.say("drop 0 3"), "0")
        self.assertEqual(len(desk.live), 5)
        self.assertEqual(desk.say("put 0 " + "ab" * 150), str(len(picks(RULE, "ab" * 150))))
        self.assertEqual(desk.say("change 299 a"), str(len(picks(RULE, "ab" * 149 + "aa"))))
        self.assertEqual(desk.say("drop 100 200"), str(len(picks(RULE, "ab" * 50))))

    def test_what_is_told(self):
        chance = random.Random(140)
        for letters, w, k in brute.SHARE_SIZES:
            rule = brute.some_rules(chance, letters, w, k, 1)[0]
            for length in [0, 1, 12]:
                text, other = brute.some_text(chance, letters, length), brute.some_text(chance, letters, 8)
                desk = desk_with(text, rule)
                places = brute.places(rule, text)
                self.assertEqual(desk.say("picks"), " ".join(map(str, places)) or "none")
                shares = [even_share(rule), least_share(rule), greatest_share(rule)]
                self.assertEqual(desk.say("shares"), " ".join(f"{p}/{q}" for p, q in shares))
                pairs = common(rule, text, other)
                self.assertEqual(desk.say("common " + other), ", ".join(f"{p} {q}" for p, q in pairs) or "none")
                self.assertEqual(len(desk.live), int(length > 0))
                self.assertEqual(desk.live.text, text)

    def test_least(self):
        for rule in [RULE, Rule(2, 2, 1, [0] * 4), Rule.by_order(2, 2, 2, ["aa", "ab", "ba", "bb"])]:
            self.assertEqual(desk_with("", rule).say("least"), str(least_common(rule)))

    def test_nothing_to_tell(self):
        desk = desk_with("a")
        self.assertEqual(desk.say("picks"), "none")
        self.assertEqual(desk.say("common abab"), "none")
        self.assertEqual(desk_with("ab").say("common b"), "none")

    def test_undo(self):
        desk = desk_with("")
        self.assertEqual(desk.say("undo"), "nothing")
        desk.say("put 0 ab")
        desk.say("change 0 b")
        self.assertEqual((desk.say("undo"), desk.live.text), ("undone", "ab"))
        self.assertEqual((desk.say("undo"), desk.live.text), ("undone", ""))
        self.assertEqual((desk.say("undo"), desk.live.text), ("nothing", ""))

    def test_the_live_text_may_be_edited_itself(self):
        desk = desk_with("ab")
        desk.live.put(2, "ba")
        self.assertEqual(desk.say("picks"), "0 1 3")
        self.assertEqual(desk.live.within(lambda live: (live.drop(0, 4), desk.say("picks"))), (0, "none"))
        self.assertEqual(desk.say("undo"), "undone")
        self.assertEqual(desk.live.text, "ab")

    def test_two_desks_go_by_themselves(self):
        one, other = desk_with("abba"), desk_with("abba")
        one.say("drop 0 2")
        self.assertEqual((one.live.text, other.live.text), ("ba", "abba"))
        self.assertIsNone(Desk().live)
        other.say("rule letters 2 w 1 k 1 table 00")
        self.assertEqual(str(one.live.rule), str(RULE))

    def test_by_name_and_again(self):
        desk = desk_with("babba")
        for _ in range(2):
            self.assertEqual(desk.say(command="picks"), "1 2 4")
            self.assertEqual(desk.say(command="common abab"), "1 0, 1 2, 4 0, 4 2")

    def test_not_iterable(self):
        with self.assertRaises(TypeError):
            iter(Desk())


class WrongCommands(DeskCase):
    def both(self, command):
        self.wrong(Desk(), command)
        self.wrong(desk_with("abba"), command)

    def test_any_values(self):
        for value in brute.any_values() + [["picks"], b"picks", ("put", 0, "a"), {"picks": 0}]:
            if value != "table":
                self.both(value)
        self.both("table")

    def test_newlines_and_spaces(self):
        for command in OTHERS + [BEGIN, "rule x"]:
            self.both(command + "\n")
            self.both("\n" + command)
            self.both(command + " ")
            self.both(" " + command)
            if " " in command:
                self.both(command.replace(" ", "  ", 1))
                self.both(command.replace(" ", "\n", 1))
                self.both(command.replace(" ", "\t", 1))
        for command in ["", " ", "  ", "\n", "rule \n", "rule a\nb"]:
            self.both(command)

    def test_words_too_many_and_too_few(self):
        for command in OTHERS:
            self.both(command + " a")
            self.both(command + " 1")
        for command in ["put", "put 0", "drop", "drop 0", "change", "change 0", "common", "rule", "put 0 a b", "drop 0 1 2",
                        "common a b", "undo 1", "picks picks"]:
            self.both(command)

    def test_other_words(self):
        for command in ["Picks", "PICKS", "pick", "say", "several", "table", "within", "0", "picks,", "rules " + str(RULE)]:
            self.both(command)

    def test_numbers(self):
        for number in ["00", "01", "007", "1000", "0000", "-1", "+1", "1.0", "a", "1_0", "\u00b2", "\u0661", "0x1", "1e1"]:
            self.both(f"put {number} a")
            self.both(f"drop {number} 1")
            self.both(f"drop 0 {number}")
            self.both(f"change {number} a")
        desk = desk_with("abba")
        for number in ["5", "10", "999", "100"]:
            self.wrong(desk, f"put {number} a", InvalidEdit)
            self.wrong(desk, f"drop {number} 1", InvalidEdit)
            self.wrong(desk, f"drop 0 {number}", InvalidEdit)
            self.wrong(desk, f"change {number} a", InvalidEdit)

    def test_without_a_live_text(self):
        desk = Desk()
        for command in OTHERS + ["put 0 c", "change 9 a", "common xyz", "drop 0 0"]:
            self.wrong(desk, command)
        self.assertIsNone(desk.live)

    def test_errors_of_rules(self):
        for desk in [Desk(), desk_with("abba")]:
            for text in ["x", "letters", str(RULE) + "x", str(RULE) + " 0", "letters 02 w 2 k 1 table 0010", "a b c",
                         "letters 2 w 2 k 1 table", "rule " + str(RULE), "letters 2 w 2 k 1 table 00x0"]:
                self.assertEqual(self.wrong(desk, "rule " + text, InvalidText).at, 0)
            for text, word in [("letters 5 w 2 k 1 table 0", "letters"), ("letters 2 w 6 k 1 table 0", "w"),
                               ("letters 2 w 2 k 0 table 0", "k"), ("letters 2 w 2 k 1 table 0020", "table"),
                               ("letters 2 w 2 k 1 table 001", "table"), ("letters 9 w 9 k 9 table 9", "letters")]:
                self.assertEqual(self.wrong(desk, "rule " + text, InvalidRule).word, word)

    def test_errors_of_live_texts(self):
        desk = desk_with("abba")
        for command in ["put 0 c", "put 5 a", "put 0 A", "put 0 a,b", "drop 4 1", "drop 0 5", "drop 0 0", "drop 3 2",
                        "change 4 a", "change 0 ab", "change 0 c", "put 0 \u00e4", "put 0 \t"]:
            self.wrong(desk, command, InvalidEdit)

    def test_errors_of_common(self):
        desk = desk_with("abba")
        for word, at in [("c", 0), ("abc", 2), ("aAc", 1), ("a\tb", 1), ("0", 0), ("none", 0)]:
            self.assertEqual(self.wrong(desk, "common " + word, InvalidLetters).at, at)


class Examples(unittest.TestCase):
    def test_those_of_the_document(self):
        desk = Desk()
        words = ("rule " + str(RULE), "put 0 baba", "put 3 b", "picks", "shares", "common abab", "undo", "picks")
        self.assertEqual(
            [desk.say(word) for word in words],
            ["4", "2", "3", "1 2 4", "3/4 1/2 1/1", "1 0, 1 2, 4 0, 4 2", "undone", "1 3"])

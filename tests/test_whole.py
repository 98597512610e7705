"""What the document promises over the whole program."""

import copy
import doctest
import importlib
import inspect
import os
import unittest

from tests import test_interface
from windowpicks.desk import Desk
from windowpicks.live import Live
from windowpicks.rules import Rule

ROOT = os.path.dirname(os.path.dirname(os.path.abspath(__file__)))
DOCUMENT = os.path.join(os.path.dirname(ROOT), "shared", "DOC.md")

TEXT = "letters 2 w 2 k 2 table 00001110"
RULE = Rule.read(TEXT)
LAST = Rule.by_order(2, 2, 2, ["aa", "ab", "ba", "bb"], True)

# Arguments for each function of the interface, by the names of the parameters.
CALLS = {
    "is_forward": [{"rule": RULE}],
    "order_of": [{"rule": RULE}],
    "picks": [{"rule": RULE, "text": "abbabaab"}],
    "picked": [{"rule": RULE, "text": "abbabaab"}],
    "is_picked": [{"rule": RULE, "around": "abba"}],
    "gap": [{"rule": RULE}],
    "even_share": [{"rule": RULE}],
    "share": [{"rule": RULE, "text": "abbab"}],
    "greatest_share": [{"rule": RULE, "lot": ["aa", "bb"]}, {"rule": RULE}],
    "least_share": [{"rule": RULE, "lot": ["aa"]}, {"rule": RULE}],
    "ring": [{"rule": RULE, "is_greatest": False, "lot": ["aa"]}, {"rule": RULE, "is_greatest": True}],
    "heights": [{"rule": RULE, "share": (1, 2), "is_greatest": False, "lot": ["aa"]}],
    "heights_hold": [{"rule": RULE, "share": (1, 1), "is_greatest": True, "value": (0,) * 8, "lot": ["aa"]}],
    "common": [{"rule": RULE, "one": "abbab", "other": "babba"}],
    "least_common": [{"rule": RULE}],
    "parted": [{"rule": RULE, "t": 2}, {"rule": RULE, "t": 3}],
    "least_near": [{"rule": RULE}],
    "parted_near": [{"rule": RULE, "t": 3}, {"rule": RULE, "t": 6}],
    "moved": [{"rule": RULE, "text": "abbabba", "at": 3, "letter": "b"}],
    "greatest_moved": [{"rule": RULE}],
    "most_moved": [{"rule": RULE}],
    "alike": [{"p": RULE, "q": LAST}],
    "no_more": [{"p": RULE, "q": LAST}],
    "parting": [{"p": RULE, "q": LAST}],
    "meets_all": [{"letters": 2, "k": 2, "lot": ["aa", "bb", "ab"]}],
    "longest_free": [{"letters": 2, "k": 2, "lot": ["aa", "bb", "ab"]}],
    "free_text": [{"letters": 2, "k": 2, "lot": ["aa", "bb", "ab"]}, {"letters": 2, "k": 2, "lot": ["aa"]}],
    "count_free": [{"letters": 2, "k": 2, "lot": ["aa"], "length": 9}],
    "necklace": [{"piece": "abb"}],
    "necklaces": [{"letters": 3, "k": 3}],
    "least_lot": [{"letters": 3, "k": 2}],
    "least_for": [{"letters": 2, "k": 3, "length": 4}],
    "lot_for": [{"letters": 2, "k": 3, "length": 4}],
    "rule_within": [{"letters": 2, "w": 2, "k": 2, "lot": ["aa", "bb", "ab"]}],
    "order_share": [{"letters": 2, "w": 3, "k": 2, "order": ["ab", "ba", "bb", "aa"]}],
    "best_share": [{"letters": 2, "w": 3, "k": 2}],
    "best_order": [{"letters": 2, "w": 3, "k": 2}],
    "cost": [{"letters": 2, "w": 3, "k": 2, "lot": ["ab", "bb"], "piece": "ba"}],
    "prices": [{"letters": 2, "w": 2, "k": 2, "share": (1, 2)}],
    "prices_hold": [{"letters": 2, "w": 2, "k": 2, "share": (1, 2), "value": (0,) * 16}],
    "bound": [{"letters": 2, "w": 2, "k": 2}],
    "is_met": [{"rule": RULE}],
    "best_rule": [{"letters": 2, "w": 2, "k": 2}],
    "texts_with": [{"rule": RULE, "length": 6, "told": [(0, "ab"), (2, "ba"), (3, "ab")]}],
    "count_with": [{"rule": RULE, "length": 6, "told": [(0, "ab"), (2, "ba"), (3, "ab")]}],
    "surely_shared": [{"rule": RULE, "one": "abbab", "other": "babba"}],
}


def function(name):
    for module, functions in test_interface.FUNCTIONS.items():
        if name in functions:
            return getattr(importlib.import_module("windowpicks." + module), name)
    raise KeyError(name)


def plain(value):
    """A value to compare, with rules as their texts."""
    if isinstance(value, Rule):
        return str(value)
    if isinstance(value, (list, tuple)):
        return value.__class__([plain(one) for one in value])
    return value


def lists(value):
    found = [value] if isinstance(value, list) else []
    for one in value if isinstance(value, (list, tuple)) else []:
        found += lists(one)
    return found


class Functions(unittest.TestCase):
    def calls(self):
        for name, rows in CALLS.items():
            for arguments in rows:
                yield name, function(name), arguments

    def test_there_is_a_call_of_each(self):
        names = {name for functions in test_interface.FUNCTIONS.values() for name in functions}
        self.assertEqual(set(CALLS), names)

    def test_arguments_by_position_and_by_name(self):
        for name, work, arguments in self.calls():
            told = plain(work(**arguments))
            order = list(inspect.signature(work).parameters)
            self.assertEqual(plain(work(*[arguments[one] for one in order if one in arguments])), told, name)
            backwards = {one: arguments[one] for one in reversed(list(arguments))}
            self.assertEqual(plain(work(**backwards)), told, name)

    def test_lists_and_tuples(self):
        for name, work, arguments in self.calls():
            told = plain(work(**arguments))
            tuples = {one: tuple(value) if isinstance(value, list) else value for one, value in arguments.items()}
            self.assertEqual(plain(work(**tuples)), told, name)

    def test_arguments_stay_as_they_are(self):
        for name, work, arguments in self.calls():
            ahead = {one: copy.copy(value) for one, value in arguments.items() if not isinstance(value, Rule)}
            work(**arguments)
            for one, value in ahead.items():
                self.assertEqual((arguments[one], arguments[one].__class__), (value, value.__class__), name)
        self.assertEqual((str(RULE), str(LAST)), (TEXT, "letters 2 w 2 k 2 table 10001111"))

    def test_sequences_are_tuples(self):
        for name, work, arguments in self.calls():
            self.assertEqual(lists(work(**arguments)), [], name)

    def test_the_same_call_again_behind_other_calls(self):
        told = [plain(work(**arguments)) for _, work, arguments in self.calls()]
        again = [plain(work(**arguments)) for _, work, arguments in reversed(list(self.calls()))]
        self.assertEqual(told, again[::-1])

    def test_equal_rules_give_equal_answers(self):
        read = {one: Rule.read(one) for one in (str(RULE), str(LAST))}
        for name, work, arguments in self.calls():
            others = {
                one: read[str(value)] if isinstance(value, Rule) else value for one, value in arguments.items()}
            self.assertEqual(plain(work(**others)), plain(work(**arguments)), name)

    def test_later_changes_of_what_was_passed(self):
        table, order, lot = [0, 0, 0, 0, 1, 1, 1, 0], ["aa", "ab", "ba", "bb"], ["aa", "bb", "ab"]
        made = [Rule(2, 2, 2, table), Rule.by_order(2, 2, 2, order), function("rule_within")(2, 2, 2, lot)]
        told = [str(rule) for rule in made]
        for row in (table, order, lot):
            row.reverse()
            row.pop()
        self.assertEqual([str(rule) for rule in made], told)
        self.assertEqual(told[:2], [TEXT, TEXT])

    def test_numbers_and_bools(self):
        for name, work, arguments in self.calls():
            told = work(**arguments)
            if name in ("is_forward", "is_picked", "heights_hold", "alike", "no_more", "meets_all", "prices_hold", "is_met"):
                self.assertIs(told.__class__, bool, name)
            if name.startswith("least_for") or name in ("gap", "least_common", "least_near", "greatest_moved", "longest_free",
                                                        "count_free", "necklaces", "cost", "count_with", "surely_shared"):
                self.assertIs(told.__class__, int, name)


class Objects(unittest.TestCase):
    def test_objects_are_not_iterable(self):
        for thing in [RULE, Live(RULE, "abab"), Desk()]:
            for work in [iter, list, tuple, sorted]:
                with self.assertRaises(TypeError):
                    work(thing)

    def test_rules_equal_nothing_else(self):
        for other in [TEXT, None, 0, RULE.table, Live(RULE), Desk(), (2, 2, 2, RULE.table)]:
            self.assertFalse(RULE == other)
            self.assertFalse(other == RULE)

    def test_live_things_leave_rules_as_they_are(self):
        live = Live(RULE, "abba")
        live.put(0, "bab")
        live.several([("drop", 0, 2), ("change", 0, "a")])
        desk = Desk()
        desk.say("rule " + TEXT)
        desk.say("put 0 abba")
        self.assertEqual((str(RULE), str(live.rule), str(desk.live.rule)), (TEXT, TEXT, TEXT))
        self.assertTrue(live.rule == RULE)


class Document(unittest.TestCase):
    @unittest.skipUnless(os.path.exists(DOCUMENT), "the document is not here")
    def test_its_examples(self):
        with open(DOCUMENT, encoding="utf-8") as file:
            examples = doctest.DocTestParser().get_doctest(file.read(), {}, "DOC.md", DOCUMENT, 0)
        told = doctest.DocTestRunner(verbose=False).run(examples)
        self.assertEqual(told.failed, 0)
        self.assertGreater(told.attempted, 30)

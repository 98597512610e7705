import random
import unittest

from tests import brute
from windowpicks.errors import InvalidEdit, InvalidLetters, Refused
from windowpicks.live import Live
from windowpicks.rules import Rule

RULE = Rule.by_order(2, 2, 1, ["a", "b"])


class Stopped(Exception):
    pass


def edited(text, edit):
    """The text behind an edit that can be done."""
    word, at, what = edit
    if word == "put":
        return text[:at] + what + text[at:]
    if word == "drop":
        return text[:at] + text[at + what:]
    return text[:at] + what + text[at + 1:]


def some_edit(chance, letters, text):
    words = ["put", "put", "drop", "change"] if text else ["put"]
    word = chance.choice(words)
    if word == "put":
        return word, chance.randrange(len(text) + 1), brute.some_text(chance, letters, chance.randrange(1, 6))
    at = chance.randrange(len(text))
    if word == "drop":
        return word, at, chance.randrange(1, min(len(text) - at, 4) + 1)
    return word, at, chance.choice("abcd"[:letters])


class LiveCase(unittest.TestCase):
    def look(self, live, text, deeds):
        self.assertEqual(live.text, text)
        places = live.picks
        self.assertEqual(places, brute.places(live.rule, text), (str(live.rule), text))
        self.assertIs(places.__class__, tuple)
        self.assertEqual(len(live), deeds)

    def do(self, live, edit):
        word, at, what = edit
        many = {"put": live.put, "drop": live.drop, "change": live.change}[word](at, what)
        self.assertIs(type(many), int)
        self.assertEqual(many, len(live.picks))


class Made(LiveCase):
    def test_texts(self):
        for rule in [RULE, Rule(2, 3, 2, [0, 1, 2, 1] * 4), Rule(4, 2, 1, [1] * 16)]:
            for text in ["", "a", "ab", "babba", "ab" * 100]:
                live = Live(rule, text)
                self.look(live, text, 0)
                self.assertEqual(live.rule, rule)
                self.assertIs(live.undo(), False)
        self.look(Live(RULE), "", 0)
        self.look(Live(text="bab", rule=RULE), "bab", 0)

    def test_wrong_letters(self):
        for text, at in [("c", 0), ("abc", 2), ("a\n", 1), ("ab ", 2), ("Ab", 0)]:
            with self.assertRaises(InvalidLetters) as caught:
                Live(RULE, text)
            self.assertEqual(caught.exception.at, at)
        for value in brute.any_values() + [["a"], b"a"]:
            if not isinstance(value, str):
                with self.assertRaises(InvalidLetters) as caught:
                    Live(RULE, value)
                self.assertEqual(caught.exception.at, 0)

    def test_not_iterable(self):
        live = Live(RULE, "abab")
        for work in [iter, list, tuple]:
            with self.assertRaises(TypeError):
                work(live)

    def test_properties_are_not_assigned(self):
        live = Live(RULE, "abab")
        for name in ["rule", "text", "picks"]:
            with self.assertRaises(AttributeError):
                setattr(live, name, "ab")
        self.look(live, "abab", 0)


class Edits(LiveCase):
    def test_rows_of_edits(self):
        chance = random.Random(130)
        for letters, w, k in brute.SIZES:
            live = Live(brute.some_rules(chance, letters, w, k, 1)[0])
            text = ""
            for deeds in range(1, 21):
                edit = some_edit(chance, letters, text)
                self.do(live, edit)
                text = edited(text, edit)
                self.look(live, text, deeds)

    def test_each_place(self):
        for at in range(6):
            live = Live(RULE, "babba")
            self.do(live, ("put", at, "ab"))
            self.look(live, "babba"[:at] + "ab" + "babba"[at:], 1)
        for at in range(5):
            for letter in "ab":
                live = Live(RULE, "babba")
                self.do(live, ("change", at, letter))
                self.look(live, "babba"[:at] + letter + "babba"[at + 1:], 1)
            for many in range(1, 6 - at):
                live = Live(RULE, "babba")
                self.do(live, ("drop", at, many))
                self.look(live, "babba"[:at] + "babba"[at + many:], 1)

    def test_by_names(self):
        live = Live(RULE)
        self.assertEqual(live.put(letters="baba", at=0), 2)
        self.assertEqual(live.put(letters="b", at=3), 3)
        self.assertEqual(live.drop(many=2, at=1), 2)
        self.assertEqual(live.change(letter="a", at=0), 2)
        self.look(live, "aba", 4)
        self.assertEqual(live.several(edits=[("drop", 0, 3)]), 0)
        self.assertEqual(live.within(work=len), 5)

    def wrong(self, live, word, at, what):
        text, deeds = live.text, len(live)
        with self.assertRaises(InvalidEdit):
            self.do(live, (word, at, what))
        self.look(live, text, deeds)

    def test_edits_that_cannot_be_done(self):
        live = Live(RULE, "bab")
        live.put(3, "a")
        for at in [-1, 5, 6, 10 ** 30]:
            self.wrong(live, "put", at, "a")
        for letters in ["", "c", "ac", "a\n", "A", " a", "a" * 50 + "d"]:
            self.wrong(live, "put", 0, letters)
        for at, many in [(0, 0), (0, -1), (0, 5), (1, 4), (3, 2), (4, 1), (4, 0), (-1, 1), (5, 1), (-4, 4), (5, -1)]:
            self.wrong(live, "drop", at, many)
        for at, letter in [(4, "a"), (-1, "a"), (5, "b"), (0, ""), (0, "ab"), (0, "c"), (0, "\n")]:
            self.wrong(live, "change", at, letter)
        empty = Live(RULE)
        self.wrong(empty, "change", 0, "a")
        self.wrong(empty, "drop", 0, 1)
        self.wrong(empty, "drop", 0, 0)

    def test_any_values(self):
        live = Live(RULE, "babb")
        for value in brute.any_values() + [["a"], ("a",), b"a", "0"]:
            if value.__class__ is not int:
                for word, what in [("put", "a"), ("drop", 1), ("change", "a")]:
                    self.wrong(live, word, value, what)
                self.wrong(live, "drop", 0, value)
            if value not in ("a", "ab"):
                self.wrong(live, "put", 0, value)
                self.wrong(live, "change", 0, value)
            for word in ("put", "change") if value.__class__ is int else ("put", "drop", "change"):
                self.wrong(live, word, value, value)
        self.wrong(live, "change", 0, "ab")
        self.assertEqual(len(live), 0)

    def test_the_alphabet_of_the_rule(self):
        for letters in (2, 3):
            live = Live(Rule(letters, 2, 1, [0] * letters ** 2), "a")
            self.do(live, ("put", 0, "abcd"[:letters]))
            self.wrong(live, "put", 0, "abcd"[:letters + 1])
            self.wrong(live, "change", 0, "abcd"[letters])


class Several(LiveCase):
    def test_rows_of_edits(self):
        chance = random.Random(131)
        for letters, w, k in brute.SIZES:
            live = Live(brute.some_rules(chance, letters, w, k, 1)[0], "abba")
            text = "abba"
            for deeds in range(1, 6):
                edits = []
                ahead = text
                for _ in range(chance.randrange(6)):
                    edits.append(some_edit(chance, letters, text))
                    text = edited(text, edits[-1])
                row = list(edits)
                self.assertEqual(live.several(edits if deeds % 2 else tuple(edits)), len(brute.places(live.rule, text)))
                self.assertEqual(edits, row)
                self.look(live, text, deeds)
                self.assertTrue(live.undo())
                self.look(live, ahead, deeds - 1)
                live.several(edits)

    def test_no_edits(self):
        live = Live(RULE, "babba")
        self.assertEqual(live.several([]), 3)
        self.assertEqual(live.several(()), 3)
        self.look(live, "babba", 2)
        self.assertTrue(live.undo())
        self.look(live, "babba", 1)

    def refused(self, live, at, edits):
        text, deeds = live.text, len(live)
        with self.assertRaises(Refused) as caught:
            live.several(edits)
        self.assertEqual(caught.exception.at, at, edits)
        self.look(live, text, deeds)

    def test_all_or_none(self):
        live = Live(RULE, "bab")
        live.put(0, "a")
        right = ("put", 0, "bb")
        for wrong in [("put", 8, "a"), ("put", 0, "c"), ("put", 0, ""), ("drop", 0, 9), ("drop", 0, 0), ("change", 6, "a"),
                      ("change", 0, "ab"), ("turn", 0, "a"), ("put", 0), ("put",), (), ("put", 0, "a", 0), ["put", 0, "a"],
                      "put", "put 0 a", None, 7, ("PUT", 0, "a"), ("put", "0", "a"), ("put", True, "a"), ("put", 0, ["a"]),
                      ("drop", 0, True), ("drop", 0, "1"), (None, 0, "a"), (["put"], 0, "a"), ("put ", 0, "a")]:
            self.refused(live, 0, [wrong])
            self.refused(live, 1, (right, wrong))
            self.refused(live, 2, [right, ("drop", 0, 1), wrong, wrong, right])
        self.look(live, "abab", 1)

    def test_each_is_done_on_what_the_ones_ahead_made(self):
        live = Live(RULE, "")
        self.refused(live, 0, [("change", 0, "a"), ("put", 0, "b")])
        self.assertEqual(live.several([("put", 0, "b"), ("change", 0, "a"), ("put", 1, "ab"), ("drop", 2, 1)]), 1)
        self.look(live, "aa", 1)
        self.refused(live, 2, [("drop", 0, 1), ("drop", 0, 1), ("drop", 0, 1)])
        self.refused(live, 1, [("drop", 0, 2), ("change", 0, "a")])

    def test_any_values(self):
        live = Live(RULE, "bab")
        for value in brute.any_values() + ["put", {"put": 0}, {0}, b"put"]:
            if not isinstance(value, (list, tuple)):
                self.refused(live, 0, value)
            self.refused(live, 0, [value])
            self.refused(live, 1, [("put", 0, "a"), value])
            if value.__class__ is not int:
                self.refused(live, 0, [("put", value, "a")])
                self.refused(live, 0, [("drop", 0, value)])
            if value not in ("a", "ab"):
                self.refused(live, 0, [("put", 0, value)])
                self.refused(live, 0, [("change", 0, value)])
            self.refused(live, 0, [(value, 0, "a")] if value != "put" else [(value, 4, "a")])
        self.assertEqual(len(live), 0)

    def test_later_changes_of_the_edits(self):
        live = Live(RULE, "bab")
        edits = [("put", 0, "a")]
        live.several(edits)
        edits[0] = ("drop", 0, 3)
        edits.append(("drop", 0, 1))
        self.look(live, "abab", 1)
        live.undo()
        self.look(live, "bab", 0)


class Undo(LiveCase):
    def test_sixty_deeds(self):
        chance = random.Random(132)
        for letters, w, k in [(2, 2, 1), (3, 2, 2), (2, 5, 4)]:
            live = Live(brute.some_rules(chance, letters, w, k, 1)[0], "ab")
            texts = ["ab"]
            while len(texts) <= 60:
                edit = some_edit(chance, letters, texts[-1])
                if len(texts) % 4 == 0:
                    live.several([edit, ("put", 0, "b")])
                    texts.append("b" + edited(texts[-1], edit))
                elif len(texts) % 7 == 0:
                    live.several(())
                    texts.append(texts[-1])
                else:
                    self.do(live, edit)
                    texts.append(edited(texts[-1], edit))
                self.look(live, texts[-1], len(texts) - 1)
            for text in texts[-2::-1]:
                self.assertIs(live.undo(), True)
                self.assertEqual(live.text, text)
                self.assertEqual(live.picks, brute.places(live.rule, text))
            self.assertIs(live.undo(), False)
            self.look(live, "ab", 0)

    def test_mixed(self):
        chance = random.Random(133)
        live = Live(RULE, "abba")
        texts = ["abba"]
        for _ in range(200):
            if chance.randrange(3) == 0 or len(texts) > 50:
                self.assertIs(live.undo(), len(texts) > 1)
                texts = texts[:-1] or texts
            else:
                edit = some_edit(chance, 2, texts[-1])
                self.do(live, edit)
                texts.append(edited(texts[-1], edit))
            self.look(live, texts[-1], len(texts) - 1)

    def test_a_letter_that_is_changed_into_itself(self):
        live = Live(RULE, "ab")
        live.change(0, "a")
        self.look(live, "ab", 1)
        self.assertIs(live.undo(), True)
        self.assertIs(live.undo(), False)


class Within(LiveCase):
    def test_the_live_text_itself_and_the_result(self):
        live = Live(RULE, "abba")
        live.put(0, "b")
        things = [None, 7, [1], live]
        for thing in things:
            def work(handed):
                self.assertIs(handed, live)
                handed.put(0, "aaa")
                handed.drop(3, 2)
                self.look(handed, "aaabba", 3)
                return thing
            self.assertIs(live.within(work), thing)
            self.look(live, "babba", 1)
        self.assertIs(live.undo(), True)
        self.look(live, "abba", 0)

    def test_what_is_taken_back_within(self):
        live = Live(RULE, "abba")
        live.put(0, "b")
        live.put(0, "b")

        def work(handed):
            self.assertIs(handed.undo(), True)
            self.assertIs(handed.undo(), True)
            self.assertIs(handed.undo(), False)
            handed.change(0, "b")
            return handed.text

        self.assertEqual(live.within(work), "bbba")
        self.look(live, "bbabba", 2)
        self.assertIs(live.undo(), True)
        self.look(live, "babba", 1)

    def test_an_error_goes_on(self):
        live = Live(RULE, "abba")
        live.put(0, "b")
        error = Stopped("now")

        def work(handed):
            handed.put(0, "a")
            handed.undo()
            handed.undo()
            raise error

        with self.assertRaises(Stopped) as caught:
            live.within(work)
        self.assertIs(caught.exception, error)
        self.look(live, "babba", 1)
        with self.assertRaises(InvalidEdit):
            live.within(lambda handed: handed.put(0, "c"))
        with self.assertRaises(Refused):
            live.within(lambda handed: handed.several([("put", 0, "a"), 7]))
        self.look(live, "babba", 1)

    def test_one_within_another(self):
        live = Live(RULE, "abba")

        def inner(handed):
            handed.drop(0, 2)
            return handed.text

        def outer(handed):
            handed.put(0, "b")
            self.assertEqual(handed.within(inner), "bba")
            self.look(handed, "babba", 1)
            try:
                handed.within(lambda one: one.change(9, "a"))
            except InvalidEdit:
                handed.put(0, "b")
            self.look(handed, "bbabba", 2)
            return handed.undo()

        self.assertIs(live.within(outer), True)
        self.look(live, "abba", 0)

    def test_of_another_live_text(self):
        live, other = Live(RULE, "abba"), Live(RULE, "ba")
        live.within(lambda handed: other.put(0, handed.text))
        self.look(other, "abbaba", 1)
        self.look(live, "abba", 0)


class Two(LiveCase):
    def test_two_go_by_themselves(self):
        one, other = Live(RULE, "abba"), Live(RULE, "abba")
        one.put(0, "b")
        other.drop(0, 1)
        self.look(one, "babba", 1)
        self.look(other, "bba", 1)
        one.undo()
        self.look(other, "bba", 1)
        self.assertIs(one.undo(), False)
        self.assertIs(other.undo(), True)
        self.look(other, "abba", 0)

    def test_what_was_read_stays(self):
        live = Live(RULE, "babba")
        text, places = live.text, live.picks
        live.drop(0, 4)
        self.assertEqual((text, places), ("babba", (1, 2, 4)))
        self.assertEqual(str(live.rule), str(RULE))

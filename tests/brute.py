"""What the document says, written down once more in the plainest way, to compare with."""

import fractions
import itertools

from windowpicks.rules import Rule


def all_texts(letters, length):
    return ["".join(text) for text in itertools.product("abcd"[:letters], repeat=length)]


def offsets(rule):
    return dict(zip(all_texts(rule.letters, rule.w + rule.k - 1), rule.table))


def places(rule, text):
    """The picked places, by looking each window up in the table."""
    table = offsets(rule)
    size = rule.w + rule.k - 1
    found = []
    for place in range(len(text)):
        windows = [at for at in range(place + 1) if at + size <= len(text)]
        if any(at + table[text[at:at + size]] == place for at in windows):
            found.append(place)
    return tuple(found)


def sure_places(rule, text):
    """The places of which all windows that can pick them stand in the text, in two lists."""
    inner = range(rule.w - 1, len(text) - (rule.w + rule.k - 1) + 1)
    there = places(rule, text)
    return [at for at in inner if at in there], [at for at in inner if at not in there]


def value(p, q):
    """The value of a fraction."""
    told = fractions.Fraction(p, q)
    return told.numerator, told.denominator


def is_above(one, other):
    return fractions.Fraction(*one) > fractions.Fraction(*other)


def is_picked_amid(rule, text):
    """Whether the place w - 1 of a text of 2 w + k - 2 letters is picked."""
    table = offsets(rule)
    size = rule.w + rule.k - 1
    return any(at + table[text[at:at + size]] == rule.w - 1 for at in range(rule.w))


def repeated(rule, text):
    """A text, with repetitions of it ahead and behind that are at least as long as a window; its beginning."""
    ahead = text * ((rule.w + rule.k - 1) // len(text) + 1)
    return ahead + text + ahead, len(ahead)


def share(rule, text):
    row, begin = repeated(rule, text)
    amid = [at for at in places(rule, row) if begin <= at < begin + len(text)]
    return value(len(amid), len(text))


def is_free(k, text, lot):
    """Whether a text has no piece of the lot if it is repeated."""
    row = text * (k // len(text) + 2)
    return not any(row[at:at + k] in lot for at in range(len(text)))


def table_by_order(letters, w, k, order, last=False):
    table = []
    for window in all_texts(letters, w + k - 1):
        pieces = [window[at:at + k] for at in range(w)]
        first = next(piece for piece in order if piece in pieces)
        equal = [at for at in range(w) if pieces[at] == first]
        table.append(equal[-1] if last else equal[0])
    return tuple(table)


def all_rules(letters, w, k):
    many = letters ** (w + k - 1)
    return [Rule(letters, w, k, table) for table in itertools.product(range(w), repeat=many)]


def some_rules(chance, letters, w, k, many):
    size = letters ** (w + k - 1)
    return [Rule(letters, w, k, [chance.randrange(w) for _ in range(size)]) for _ in range(many)]


def some_text(chance, letters, length):
    return "".join(chance.choice("abcd"[:letters]) for _ in range(length))


def some_lot(chance, letters, k, many):
    return chance.sample(all_texts(letters, k), many)


def deep(value, depth):
    for _ in range(depth):
        value = [value]
    return value


def any_values():
    """Values of all kinds that the document calls any value."""
    rule = Rule(2, 2, 1, [0, 0, 1, 0])
    return [
        None, True, False, 0, 1, -1, 2, 10 ** 30, "", "a", "ab", "table", "\n", "\u00e4", "\u00b2", rule,
        [], (), [rule], (None,), ["a", None], [["a"], "b"], [1, "a", (True, [rule])], deep("a", 8), deep((), 7),
    ]


def wrong_pairs():
    """Pairs of which one or both are no texts of two letters, behind the index that is told then."""
    pairs = [
        (2, "abc", "ab"), (2, "ab", "abc"), (2, "abc", "c"), (0, "c", "abc"), (3, "abbcab", "abd"), (1, "", "a\n"),
        (1, "aA", ""), (299, "ab", "a" * 299 + "c"), (299, "a" * 299 + "d", "b"),
    ]
    for one in any_values() + [["a", "b"], b"ab"]:
        if not isinstance(one, str):
            pairs += [(0, one, "ab"), (0, one, "abc"), (0, one, one), (0, "ab", one), (0, "", one), (2, "abc", one)]
    return pairs


# All sizes of rules with at most 256 windows.
SIZES = [
    (letters, w, k)
    for letters in range(2, 5) for w in range(1, 6) for k in range(1, 5)
    if letters ** (w + k - 1) <= 256
]


def sizes_within(most, length):
    """Those of them for which there are at most so many texts of the length that a function of w and k tells."""
    return [(letters, w, k) for letters, w, k in SIZES if letters ** length(w, k) <= most]


SHARE_SIZES = sizes_within(256, lambda w, k: 2 * w + k - 2)
COMMON_SIZES = sizes_within(1100, lambda w, k: 3 * w + k - 3)
NEAR_SIZES = sizes_within(1100, lambda w, k: 4 * w + 2 * k - 4)
EDIT_SIZES = sizes_within(2100, lambda w, k: 4 * w + 2 * k - 5)

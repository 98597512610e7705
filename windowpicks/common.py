"""The common picked places of two texts, and how long a stretch is that surely has one.

A stretch is shown with the w - 1 letters on both sides of it: on these, and on its own letters,
hangs which of its places are picked.
"""

from windowpicks.picks import picked
from windowpicks.texts import ALPHABET, texts_of


def common(rule, one, other):
    """Return the ascending tuple of the pairs of picked places of two texts with the same piece."""
    ours = picked(rule, one)
    theirs = {}
    for place, piece in picked(rule, other):
        theirs.setdefault(piece, []).append(place)
    return tuple([(p, q) for p, piece in ours for q in theirs.get(piece, [])])


def least_common(rule):
    """Return the least length of a stretch that surely has a common pick in any two texts."""
    t = rule.k
    while parted(rule, t) is not None:
        t += 1
    return t


def parted(rule, t):
    """Return some two texts with the same t letters amid that have no common pick, or None."""
    shown = _shown(rule, t)
    for stretch in shown:
        pair = _some_pair(shown[stretch], shown[stretch])
        if pair is not None:
            return pair
    return None


def least_near(rule):
    """Return the least length of stretches that surely have a common pick, one letter otherwise or none."""
    t = rule.k
    while parted_near(rule, t) is not None:
        t += 1
    return t


def parted_near(rule, t):
    """Return some two texts like those of `parted`, one letter amid otherwise or none, or None."""
    shown = _shown(rule, t)
    for stretch in shown:
        for other in _near(rule.letters, stretch):
            pair = _some_pair(shown[stretch], shown[other])
            if pair is not None:
                return pair
    return None


def _shown(rule, t):
    """Return for each stretch of t letters the picks that it can have.

    They are a dict: from the pairs of place and piece, counted from the beginning of the stretch, to
    some text that shows the stretch with just these.
    """
    reach = rule.w - 1
    shown = {}
    for text in texts_of(rule.letters, t + 2 * reach):
        pairs = [(place - reach, piece) for place, piece in picked(rule, text)]
        inner = tuple([(place, piece) for place, piece in pairs if 0 <= place <= t - rule.k])
        shown.setdefault(text[reach:reach + t], {})[inner] = text
    return shown


def _some_pair(ours, theirs):
    """Return some text of the one dict and some of the other one without a common pick, or None."""
    for mine in ours:
        for yours in theirs:
            if not any([pair in yours for pair in mine]):
                return ours[mine], theirs[yours]
    return None


def _near(letters, text):
    """Return the texts that are this one, or differ from it in one place alone."""
    places = range(len(text))
    others = [(at, letter) for at in places for letter in ALPHABET[:letters] if letter != text[at]]
    return [text] + [text[:at] + letter + text[at + 1:] for at, letter in others]

"""The common picked places of two texts, and how long a stretch is that surely has one.

A stretch is shown with the w - 1 letters on both sides of it: on these, and on its own letters,
hangs which of its places are picked. A set of its places is an integer, whose binary digit number p
is 1 if the place p is in the set.
"""

from windowpicks.picks import picked
from windowpicks.texts import count_of, text_of


def common(rule, one, other):
    """Return the ascending tuple of the pairs of picked places of two texts with the same piece."""
    ours = picked(rule, one)
    theirs = {}
    for place, piece in picked(rule, other):
        theirs.setdefault(piece, []).append(place)
    return tuple([(p, q) for p, piece in ours for q in theirs.get(piece, [])])


def least_common(rule):
    """Return the least length of a stretch that surely has a common pick in any two texts."""
    t = rule.k
    while _parted(rule, t, False) is not None:
        t += 1
    return t


def parted(rule, t):
    """Return some two texts with the same t letters amid that have no common pick, or None."""
    return _parted(rule, t, False)


def least_near(rule):
    """Return the least length of stretches that surely have a common pick, one letter otherwise or none."""
    # Of fewer letters each piece has the one amid: if that is another one there, no piece is the same.
    t = 2 * rule.k
    while _parted(rule, t, True) is not None:
        t += 1
    return t


def parted_near(rule, t):
    """Return some two texts like those of `parted`, one letter amid otherwise or none, or None."""
    return _parted(rule, t, True)


def _parted(rule, t, is_near):
    sides = _sides(rule, t)
    # The places that are picked whatever stands around the stretch.
    sure = list(sides[0])
    for row in sides[1:]:
        sure = [one & other for one, other in zip(sure, row)]
    pair = _some_pair(sides, [(one, one) for one, there in enumerate(sure) if there == 0], -1)
    if pair is None and is_near:
        pair = _some_near_pair(rule, t, sides, sure)
    if pair is None:
        return None
    return _text_of_side(rule, t, pair[0]), _text_of_side(rule, t, pair[1])


def _sides(rule, t):
    """Return for what can stand around a stretch of t letters the picked places of each stretch.

    Both go by their numbers: first what stands ahead counts, then what stands behind.
    """
    reach = rule.w - 1
    inner = count_of(2, t - rule.k + 1) - 1
    places = [(there >> reach) & inner for there in _place_sets(rule, t + 2 * reach)]
    behind = count_of(rule.letters, reach)
    block = count_of(rule.letters, t + reach)
    return [places[ahead + after:ahead + block:behind]
            for ahead in range(0, len(places), block) for after in range(behind)]


def _place_sets(rule, length):
    """Return for each text of this length, from that of a window on, the set of its picked places."""
    sets = [1 << at for at in rule.table]
    for begin in range(1, length - (rule.w + rule.k - 1) + 1):
        news = [1 << (begin + at) for at in rule.table] * count_of(rule.letters, begin)
        longer = [there for there in sets for _ in range(rule.letters)]
        sets = [there | new for there, new in zip(longer, news)]
    return sets


def _some_pair(sides, stretches, kept):
    """Return some sides of the one and the other of a pair of stretches without a common one of the places kept.

    They are pairs of the number of a side and that of its stretch. None if there are none.
    """
    for one, other in stretches:
        # Few sets of places are different.
        ours = {row[one]: at for at, row in enumerate(sides)}
        theirs = {row[other]: at for at, row in enumerate(sides)}
        for mine in ours:
            for yours in theirs:
                if mine & yours & kept == 0:
                    return (ours[mine], one), (theirs[yours], other)
    return None


def _some_near_pair(rule, t, sides, sure):
    """Return what `_some_pair` does for stretches that differ in one place, or None."""
    for at in range(t):
        # Of the pieces with the letter at this place none is common.
        kept = ~(((1 << rule.k) - 1) << at >> (rule.k - 1))
        unit = count_of(rule.letters, t - 1 - at)
        block = unit * rule.letters
        stretches = [
            (one, other) for first in range(0, len(sure), block) for one in range(first, first + block - unit)
            for other in range(one + unit, first + block, unit) if sure[one] & sure[other] & kept == 0]
        pair = _some_pair(sides, stretches, kept)
        if pair is not None:
            return pair
    return None


def _text_of_side(rule, t, place):
    side, stretch = place
    reach = rule.w - 1
    many = count_of(rule.letters, reach)
    ahead = text_of(rule.letters, reach, side // many)
    return ahead + text_of(rule.letters, t, stretch) + text_of(rule.letters, reach, side % many)

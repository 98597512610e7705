"""Lots of pieces: whether all endless texts have one of them, how long a text without one can be, the least lots.

A text without a piece of a lot is a walk of other pieces, each of which begins with what the one
ahead of it has but for its first letter. Pieces go by their numbers here.
"""

from itertools import combinations
from math import gcd

from windowpicks.rules import Rule
from windowpicks.texts import ALPHABET, check_lot, count_of, text_of, texts_of


def meets_all(letters, k, lot):
    """Return whether each endless text has a piece of a lot."""
    return not _walks(letters, k, check_lot(letters, k, lot))[1]


def longest_free(letters, k, lot):
    """Return the greatest length of a text without a piece of a lot, or None if there is no greatest one."""
    rows, endless = _walks(letters, k, check_lot(letters, k, lot))
    return None if endless else k - 1 + len(rows)


def free_text(letters, k, lot):
    """Return some text of this length without a piece of a lot, or else one that has none if it is repeated."""
    rows, endless = _walks(letters, k, check_lot(letters, k, lot))
    if endless:
        return _ring_of(letters, k, endless)
    if not rows:
        return ALPHABET[0] * (k - 1)
    many = count_of(letters, k - 1)
    at = rows[-1][0]
    text = text_of(letters, k, at)
    for row in rows[-2::-1]:
        at = min([piece for piece in row if piece // letters == at % many])
        text = text + ALPHABET[at % letters]
    return text


def count_free(letters, k, lot, length):
    """Return the number of all texts of a length that have no piece of a lot."""
    pieces = check_lot(letters, k, lot)
    if length < k:
        return count_of(letters, length)
    many = count_of(letters, k - 1)
    steps = [(piece // letters, piece % many) for piece in _others(letters, k, pieces)]
    counts = [1] * many
    for _ in range(length - k + 1):
        ends = [0] * many
        for begin, end in steps:
            ends[end] += counts[begin]
        counts = ends
    return sum(counts)


def necklace(piece):
    """Return all texts that come of a text by turning it, ascending."""
    return tuple(sorted(set([piece[at:] + piece[:at] for at in range(len(piece))])))


def necklaces(letters, k):
    """Return the number of necklaces of all pieces."""
    # The mean number of pieces that a turn leaves as they are (Burnside).
    return sum([count_of(letters, gcd(at, k)) for at in range(k)]) // k


def least_lot(letters, k):
    """Return some lot of as few pieces as possible that meets all endless texts."""
    firsts = [piece for piece in texts_of(letters, k) if necklace(piece)[0] == piece]
    return tuple(sorted([_piece_of_necklace(first) for first in firsts]))


def least_for(letters, k, length):
    """Return the least number of pieces of a lot of which each text of a length has one."""
    return len(lot_for(letters, k, length))


def lot_for(letters, k, length):
    """Return some such lot of so many pieces."""
    pieces = texts_of(letters, k)
    # Round each necklace go texts without any other pieces: so each lot has one of each.
    for many in range(necklaces(letters, k), len(pieces)):
        for lot in combinations(range(len(pieces)), many):
            rows, endless = _walks(letters, k, lot)
            if not endless and k - 1 + len(rows) < length:
                return tuple([pieces[number] for number in lot])
    return tuple(pieces)


def rule_within(letters, w, k, lot):
    """Return some rule that picks pieces of a lot alone, or None."""
    there = {piece: True for piece in check_lot(letters, k, lot)}
    many = count_of(letters, k)
    units = [count_of(letters, w - 1 - at) for at in range(w)]
    table = []
    for window in range(count_of(letters, w + k - 1)):
        offsets = [at for at, unit in enumerate(units) if window // unit % many in there]
        if not offsets:
            return None
        table.append(offsets[0])
    return Rule(letters, w, k, table)


def _others(letters, k, pieces):
    there = {piece: True for piece in pieces}
    return [piece for piece in range(count_of(letters, k)) if piece not in there]


def _walks(letters, k, pieces):
    """Return the rows of what walks of one, two and more other pieces begin with, and what endless ones do.

    The rows end with that of the longest walks, if there are no endless ones.
    """
    many = count_of(letters, k - 1)
    rows = []
    left = _others(letters, k, pieces)
    while left and (not rows or len(left) < len(rows[-1])):
        rows.append(left)
        begins = {piece // letters: True for piece in left}
        left = [piece for piece in left if piece % many in begins]
    return rows, left


def _ring_of(letters, k, endless):
    """Return the letters that come behind each other round some ring of pieces that begin endless walks."""
    many = count_of(letters, k - 1)
    chosen = {piece // letters: piece for piece in endless}
    at = endless[0] // letters
    text = ""
    lengths = {}
    while at not in lengths:
        lengths[at] = len(text)
        text = text + ALPHABET[chosen[at] % letters]
        at = chosen[at] % many
    return text[lengths[at]:]


def _piece_of_necklace(first):
    """Return the piece that the least lot has of a necklace whose least piece is told.

    Champarnaud, Hansel and Perrin (2004) showed that these pieces meet all endless texts: the least
    one is some text as often as it goes, and fewer letters than that has; of such texts that are less
    than all their turned ones the shortest is taken, and the fewer letters are put ahead.
    """
    sizes = [size for size in range(1, len(first) + 1) if _is_part(first, size)]
    end = _end_of_parts(first, min(sizes))
    return first[end:] + first[:end]


def _is_part(first, size):
    turned = necklace(first[:size])
    return len(turned) == size and turned[0] == first[:size] and len(first) - _end_of_parts(first, size) < size


def _end_of_parts(first, size):
    """Return where the first so many letters of a piece, as often as they go, end."""
    end = size
    while first[end:end + size] == first[:size]:
        end += size
    return end

"""The shares of picked places: over all texts alike, of one text, the greatest and the least one.

A *standing* is a text of 2 w + k - 3 letters: what is known, at a place of an endless text, of the
letters around it. Each text of one letter more is a step, and each step has the place of which it
tells whether it is picked; see `rings`.
"""

from math import gcd

from windowpicks.masks import around_row, spread
from windowpicks.rings import are_settled, least_ring, settled_sums
from windowpicks.texts import ALPHABET, check_letters, check_lot, count_of, is_integer, number_of


def value_of(p, q):
    """Return the fraction p / q (q from 1 on) in lowest terms."""
    divisor = gcd(p, q)
    return p // divisor, q // divisor


def even_share(rule):
    """Return the share of the texts around a place for which the place is picked."""
    row = around_row(rule)
    return value_of(row.count("1"), len(row))


def share(rule, text):
    """Return the share of picked places of a text that is repeated without end."""
    check_letters(rule.letters, text)
    many = len(rule.table)
    size = rule.w + rule.k - 1
    # The windows of one repetition reach into the following ones.
    repeated = text * (size // len(text) + 2)
    number = number_of(rule.letters, repeated[:size - 1])
    places = []
    for at, code in enumerate(repeated[size - 1:size - 1 + len(text)].encode()):
        number = (number * rule.letters + code - 97) % many
        places.append((at + rule.table[number]) % len(text))
    return value_of(len(set(places)), len(text))


def greatest_share(rule, lot=()):
    """Return the greatest share of the texts that have no piece of a lot if repeated, or None."""
    return _utmost_share(rule, True, lot)


def least_share(rule, lot=()):
    """Return the least share of the texts that have no piece of a lot if repeated, or None."""
    return _utmost_share(rule, False, lot)


def ring(rule, is_greatest, lot=()):
    """Return some text that has the greatest (or least) share, and no piece of a lot, or None."""
    found = _utmost_ring(rule, is_greatest, lot)
    return None if found is None else found[0]


def heights(rule, share, is_greatest, lot=()):
    """Return some paper that shows that no share is greater (or less) than this one, or None."""
    pieces = check_lot(rule.letters, rule.k, lot)
    p, q = share
    many = count_of(rule.letters, 2 * rule.w + rule.k - 3)
    # No place brings more than 1, or less than 0: so even heights show that.
    if is_greatest and p >= q or not is_greatest and p <= 0:
        return (0,) * many
    # A ring with a step that is barred comes to more than 0, whatever its other steps are.
    weights = _weights(rule, share, is_greatest, pieces, many * (abs(p) + q))
    sums = settled_sums(rule.letters, weights)
    if sums is None:
        return None
    return tuple(sums) if is_greatest else tuple([-total for total in sums])


def heights_hold(rule, share, is_greatest, value, lot=()):
    """Return whether any value is a paper that shows that no share is greater (or less)."""
    pieces = check_lot(rule.letters, rule.k, lot)
    if not isinstance(value, tuple) or len(value) != count_of(rule.letters, 2 * rule.w + rule.k - 3):
        return False
    if not all([is_integer(height) for height in value]):
        return False
    sums = list(value) if is_greatest else [-height for height in value]
    # Of steps that are barred nothing is asked.
    weights = _weights(rule, share, is_greatest, pieces, max(sums) - min(sums))
    return are_settled(rule.letters, weights, sums)


def _weights(rule, share, is_greatest, pieces, barred):
    """Return the weight of each step: by how much, q times, it is on this side of a share p / q.

    Steps with one of these pieces weigh what is told by `barred`.
    """
    p, q = share
    there, other = (p - q, p) if is_greatest else (q - p, -p)
    weights = [there if digit == "1" else other for digit in around_row(rule)[::-1]]
    if not pieces:
        return weights
    return [barred if digit == "1" else weight for digit, weight in zip(_barred_row(rule, pieces)[::-1], weights)]


def _barred_row(rule, pieces):
    """Return the row of the steps that have one of these pieces."""
    length = 2 * rule.w + rule.k - 2
    there = {piece: True for piece in pieces}
    row = "".join(["1" if piece in there else "0" for piece in range(count_of(rule.letters, rule.k))][::-1])
    mask = 0
    for ahead in range(length - rule.k + 1):
        mask = mask | spread(rule.letters, row, ahead, length - rule.k - ahead)
    return f"{mask:b}".zfill(count_of(rule.letters, length))


def _utmost_share(rule, is_greatest, lot):
    found = _utmost_ring(rule, is_greatest, lot)
    return None if found is None else found[1]


def _utmost_ring(rule, is_greatest, lot):
    """Return some text that has the greatest (or least) share, and this share, or None."""
    pieces = check_lot(rule.letters, rule.k, lot)
    if is_greatest:
        for letter in ALPHABET[:rule.letters]:
            # All windows of a repeated letter are the same.
            if number_of(rule.letters, letter * rule.k) not in pieces:
                return letter, (1, 1)
    many = count_of(rule.letters, 2 * rule.w + rule.k - 3)
    weights = _weights(rule, (0, 1), is_greatest, pieces, 3 * many)
    steps = least_ring(rule.letters, weights)
    total = sum([weights[step] for step in steps])
    # Without a step that is barred the mean is 1 at most, with one it is 2 at least.
    if total > len(steps):
        return None
    text = "".join([ALPHABET[step % rule.letters] for step in steps])
    return text, value_of(abs(total), len(steps))

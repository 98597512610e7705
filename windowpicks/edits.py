"""How many picks one changed letter moves."""

from windowpicks.masks import around_row, lowest_text, picked_mask, spread
from windowpicks.picks import picks
from windowpicks.texts import ALPHABET, check_letters, count_of


def moved(rule, text, at, letter):
    """Return the places that are picked no more, and those that are picked now, if a letter is changed."""
    check_letters(rule.letters, text)
    changed = text[:at] + letter + text[at + 1:]
    check_letters(rule.letters, changed)
    # Among these letters stand all windows that can pick one of the places that can be moved.
    begin, end = max(0, at - (2 * rule.w + rule.k - 3)), at + 2 * rule.w + rule.k - 2
    ahead = picks(rule, text[begin:end])
    behind = picks(rule, changed[begin:end])
    gone = tuple([begin + place for place in ahead if place not in behind])
    come = tuple([begin + place for place in behind if place not in ahead])
    return gone, come


def greatest_moved(rule):
    """Return the greatest number of places that one changed letter moves in an endless text."""
    return most_moved(rule)[2]


def most_moved(rule):
    """Return some text, a letter that is put amid it, and the greatest number of places that it moves."""
    side = 2 * rule.w + rule.k - 3
    most = None
    masks = _picked_masks(rule, side)
    for one in range(rule.letters):
        for other in range(one + 1, rule.letters):
            number, left = _most_differing(rule, masks, side, one, other)
            if most is None or number > most[2]:
                text = lowest_text(rule.letters, 2 * side + 1, left)
                most = text[:side] + ALPHABET[one] + text[side + 1:], ALPHABET[other], number
    return most


def _picked_masks(rule, side):
    """Return for each place that can be moved the mask of the texts in which it is picked.

    These texts have the letter that is changed amid, and so many letters on both sides of it.
    """
    row = around_row(rule)
    # The places from w + k - 2 ahead of the letter on, to w - 1 behind it.
    first = side - (rule.w + rule.k - 2)
    return [picked_mask(rule, row, place, 2 * side - place) for place in range(first, side + rule.w)]


def _most_differing(rule, masks, side, one, other):
    """Return the greatest number of places that differ if one letter amid is another one, and the mask of such texts.

    Of this mask the letter amid is the first one of the alphabet, in the place of the two.
    """
    unit = count_of(rule.letters, side)
    # The texts with the first letter of the alphabet amid.
    plain = spread(rule.letters, "0" * (rule.letters - 1) + "1", side, side)
    digits = []
    for mask in masks:
        differing = ((mask >> (one * unit)) ^ (mask >> (other * unit))) & plain
        _count_in(digits, differing)
    number, left = 0, plain
    for at in range(len(digits) - 1, -1, -1):
        number = 2 * number
        if left & digits[at]:
            number += 1
            left = left & digits[at]
    return number, left


def _count_in(digits, mask):
    """Add 1 to the count of each text of a mask; the counts are kept as masks, one for each binary digit."""
    for at, digit in enumerate(list(digits)):
        digits[at] = digit ^ mask
        mask = digit & mask
    if mask:
        digits.append(mask)

"""The picked places of a text."""

from windowpicks.masks import around_row, picked_mask
from windowpicks.texts import check_letters, number_of


def picks(rule, text):
    """Return the ascending tuple of the places that are picked from some window of a text."""
    check_letters(rule.letters, text)
    table, letters, many = rule.table, rule.letters, len(rule.table)
    size = rule.w + rule.k - 1
    number = number_of(letters, text[:size - 1])
    places = []
    for at, code in enumerate(text[size - 1:].encode()):
        number = (number * letters + code - 97) % many
        places.append(at + table[number])
    return tuple(sorted(set(places)))


def picked(rule, text):
    """Return the tuple of the pairs of a picked place and the piece there."""
    k = rule.k
    return tuple([(place, text[place:place + k]) for place in picks(rule, text)])


def is_picked(rule, around):
    """Return whether the place with just these 2 w + k - 2 letters around it is picked."""
    return rule.w - 1 in picks(rule, around)


def gap(rule):
    """Return the greatest distance from a picked place of an endless text to the next one."""
    row = around_row(rule)
    ahead, behind = rule.w - 1, 2 * rule.w + rule.k - 3
    # The texts whose place `ahead` is picked, while those up to the distance behind it are not.
    left = picked_mask(rule, row, ahead, behind)
    distance = 1
    while distance < rule.w:
        left = left & ~picked_mask(rule, row, ahead + distance, behind - distance)
        if left == 0:
            return distance
        distance += 1
    # Each window has a pick.
    return rule.w

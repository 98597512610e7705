"""The picked places of a text."""

from windowpicks.texts import ALPHABET, check_letters, texts_of


def picks(rule, text):
    """Return the ascending tuple of the places that are picked from some window of a text."""
    check_letters(rule.letters, text)
    size = rule.w + rule.k - 1
    places = [at + rule.offset(text[at:at + size]) for at in range(len(text) - size + 1)]
    return tuple(sorted(set(places)))


def picked(rule, text):
    """Return the tuple of the pairs of a picked place and the piece there."""
    return tuple([(place, text[place:place + rule.k]) for place in picks(rule, text)])


def is_picked(rule, around):
    """Return whether the place with just these 2 w + k - 2 letters around it is picked."""
    return rule.w - 1 in picks(rule, around)


def gap(rule):
    """Return the greatest distance from a picked place of an endless text to the next one."""
    arounds = texts_of(rule.letters, 2 * rule.w + rule.k - 2)
    is_there = {around: is_picked(rule, around) for around in arounds}
    # A standing is what is known, at a place, of the letters around the next place.
    standings = {around[1:]: True for around in arounds if is_there[around]}
    distance = 0
    while standings:
        distance += 1
        reached = [standing + letter for standing in standings for letter in ALPHABET[:rule.letters]]
        standings = {around[1:]: True for around in reached if not is_there[around]}
    return distance

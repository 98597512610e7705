"""How many picks one changed letter moves."""

from windowpicks.picks import picks
from windowpicks.texts import ALPHABET, texts_of


def moved(rule, text, at, letter):
    """Return the places that are picked no more, and those that are picked now, if a letter is changed."""
    ahead = picks(rule, text)
    behind = picks(rule, text[:at] + letter + text[at + 1:])
    gone = tuple([place for place in ahead if place not in behind])
    come = tuple([place for place in behind if place not in ahead])
    return gone, come


def greatest_moved(rule):
    """Return the greatest number of places that one changed letter moves in an endless text."""
    return most_moved(rule)[2]


def most_moved(rule):
    """Return some text, a letter that is put amid it, and the greatest number of places that it moves."""
    amid = 2 * rule.w + rule.k - 3
    most = None
    # All windows with the letter amid, and all that can pick the same places, stand in such a text.
    for text in texts_of(rule.letters, 2 * amid + 1):
        for letter in ALPHABET[:rule.letters]:
            gone, come = moved(rule, text, amid, letter)
            if most is None or len(gone) + len(come) > most[2]:
                most = text, letter, len(gone) + len(come)
    return most

"""Texts of letters, and the checks of arguments that the modules share."""

from windowpicks.errors import InvalidLetters, InvalidLot

ALPHABET = "abcd"
DIGITS = "0123456789"


def is_integer(value):
    """Return whether a value is an integer, and no bool."""
    return isinstance(value, int) and not isinstance(value, bool)


def is_between(value, low, high):
    """Return whether a value is an integer from low to high."""
    return is_integer(value) and low <= value <= high


def is_sequence(value):
    """Return whether a value is a list or a tuple."""
    return isinstance(value, (list, tuple))


def is_digits(word):
    """Return whether a string is one decimal digit or more."""
    return word != "" and all([character in DIGITS for character in word])


def is_decimal(word, most):
    """Return whether a string is a number of at most so many digits, without leading zeros."""
    return is_digits(word) and len(word) <= most and (word == "0" or word[0] != "0")


def count_of(letters, length):
    """Return how many texts of this length there are."""
    count = 1
    for _ in range(length):
        count = count * letters
    return count


def texts_of(letters, length):
    """Return the list of all texts of this length, ascending."""
    texts = [""]
    for _ in range(length):
        texts = [text + letter for text in texts for letter in ALPHABET[:letters]]
    return texts


def number_of(letters, text):
    """Return the index of a text among all texts of its length, ascending."""
    number = 0
    for letter in text:
        number = number * letters + ALPHABET.find(letter)
    return number


def check_letters(letters, text):
    """Raise InvalidLetters for any value that is no text of the first so many letters."""
    if not isinstance(text, str):
        raise InvalidLetters(0)
    for at, letter in enumerate(text):
        if letter not in ALPHABET[:letters]:
            raise InvalidLetters(at)


def is_text(letters, value):
    """Return whether a value is a text of the first so many letters."""
    return isinstance(value, str) and all([letter in ALPHABET[:letters] for letter in value])


def check_lot(letters, k, lot):
    """Raise InvalidLot for any value that is no sequence of different pieces of k letters."""
    if not is_sequence(lot):
        raise InvalidLot(0)
    there = {}
    for at, piece in enumerate(lot):
        if not is_text(letters, piece) or len(piece) != k or piece in there:
            raise InvalidLot(at)
        there[piece] = True

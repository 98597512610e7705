"""Texts of letters, and the checks of arguments that the modules share.

Among all texts of its length, ascending, a text has a *number*: its letters are the digits.
"""

from windowpicks.errors import InvalidLetters, InvalidLot

ALPHABET = "abcd"
DIGITS = "0123456789"
DIGIT_OF = {97: "0", 98: "1", 99: "2", 100: "3"}


def is_integer(value):
    """Return whether a value is an integer, and no bool."""
    return isinstance(value, int) and value is not True and value is not False


def is_between(value, low, high):
    """Return whether a value is an integer from low to high."""
    return is_integer(value) and low <= value <= high


def is_sequence(value):
    """Return whether a value is a list or a tuple."""
    return isinstance(value, (list, tuple))


def is_digits(word):
    """Return whether a string is one decimal digit or more."""
    return word != "" and all([character in DIGITS for character in word])


def is_decimal(word, most):
    """Return whether a string is a number of at most so many digits, without leading zeros."""
    return is_digits(word) and len(word) <= most and (word == "0" or word[0] != "0")


def count_of(letters, length):
    """Return how many texts of this length there are."""
    count = 1
    for _ in range(length):
        count = count * letters
    return count


def texts_of(letters, length):
    """Return the list of all texts of this length, ascending."""
    texts = [""]
    for _ in range(length):
        texts = [text + letter for text in texts for letter in ALPHABET[:letters]]
    return texts


def number_of(letters, text):
    """Return the number of a text."""
    return int("0" + text.translate(DIGIT_OF), letters)


def text_of(letters, length, number):
    """Return the text of this length with a number."""
    text = ""
    for _ in range(length):
        text = ALPHABET[number % letters] + text
        number = number // letters
    return text


def is_text(letters, value):
    """Return whether a value is a text of the first so many letters."""
    return isinstance(value, str) and value.strip(ALPHABET[:letters]) == ""


def check_letters(letters, text):
    """Raise InvalidLetters for any value that is no text of the first so many letters."""
    if not isinstance(text, str):
        raise InvalidLetters(0)
    # Only letters of the alphabet are taken off, so the rest begins with the first other character.
    rest = text.lstrip(ALPHABET[:letters])
    if rest != "":
        raise InvalidLetters(len(text) - len(rest))


def check_lot(letters, k, lot):
    """Return the numbers of the pieces of a lot; raise InvalidLot for any value that is no lot."""
    if not is_sequence(lot):
        raise InvalidLot(0)
    if len(lot) == 0:
        return []
    left = {piece: number for number, piece in enumerate(texts_of(letters, k))}
    numbers = []
    for at, piece in enumerate(lot):
        if not isinstance(piece, str) or piece not in left:
            raise InvalidLot(at)
        # A piece that is told once more is not left.
        numbers.append(left.pop(piece))
    return numbers


def is_order(letters, k, order):
    """Return whether any value is a sequence of all pieces, each once."""
    # Values of different kinds cannot be sorted together.
    if not is_sequence(order) or not all([isinstance(piece, str) for piece in order]):
        return False
    return sorted(order) == texts_of(letters, k)

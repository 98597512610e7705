"""Sets of texts of one length, as integers.

The binary digit number n of a *mask* is 1 if the text with the number n is in the set: so one
operation with integers does for all texts. The *row* of a set has these digits as a string, the
one of the last text first; it is what Python reads and shows quickly.
"""

from windowpicks.texts import count_of, text_of


def spread(letters, row, ahead, behind):
    """Return the mask of the texts that have more letters ahead of and behind one of a row's texts."""
    many = count_of(letters, behind)
    wide = row.replace("0", "0" * many).replace("1", "1" * many)
    return int(wide * count_of(letters, ahead), 2)


def lowest(mask):
    """Return the least number of a mask that is not 0."""
    return (mask & -mask).bit_length() - 1


def lowest_text(letters, length, mask):
    """Return the first text of a mask that is not 0, for texts of this length."""
    return text_of(letters, length, lowest(mask))


def around_row(rule):
    """Return the row of the texts of 2 w + k - 2 letters whose place w - 1 is picked."""
    mask = 0
    for offset in range(rule.w):
        # The window that picks the place with this offset ends so many letters ahead of the end.
        windows = "".join(["1" if at == offset else "0" for at in rule.table[::-1]])
        mask = mask | spread(rule.letters, windows, rule.w - 1 - offset, offset)
    return f"{mask:b}".zfill(count_of(rule.letters, 2 * rule.w + rule.k - 2))


def picked_mask(rule, row, ahead, behind):
    """Return the mask of the texts in which the place with so many letters on both sides is picked.

    `row` is the `around_row` of the rule.
    """
    return spread(rule.letters, row, ahead - (rule.w - 1), behind - (rule.w + rule.k - 2))

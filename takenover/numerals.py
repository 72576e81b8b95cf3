"""Numerals: integers as they are written."""

FIGURES = "0123456789"
MOST_FIGURES = 9


def is_written_in(word, signs):
    """Tell whether each sign of a word is one of these."""
    return all([sign in signs for sign in word])


def is_numeral(word):
    """Tell whether this is an integer from 0 on of few figures, without a sign and needless zeros."""
    if not 1 <= len(word) <= MOST_FIGURES or not is_written_in(word, FIGURES):
        return False
    return len(word) == 1 or word[0] != "0"

"""Numbers in texts."""

FIGURES = "0123456789"
MOST_FIGURES = 9


def is_figures(most, word):
    """Whether a word is a number of at most so many figures, without needless zeros."""
    if not 1 <= len(word) <= most or not all([sign in FIGURES for sign in word]):
        return False
    return word == "0" or word[0] != "0"


def are_numbers(words):
    """Whether all words are numbers of at most nine figures."""
    return all([is_figures(MOST_FIGURES, word) for word in words])


def numbers_in(words):
    """The tuple of the numbers that words tell."""
    return tuple([int(word) for word in words])


def joined_numbers(numbers):
    """Numbers with one blank between."""
    return " ".join([str(number) for number in numbers])

"""Whole numbers, names and texts: what is one, plain copies, and numbers read from words."""

LETTERS = "abcdefghijklmnopqrstuvwxyz"
LONGEST_NAME = 8


def is_whole(thing):
    """Whether anything is a whole number."""
    # Python takes truths for ints, the document doesn't.
    return isinstance(thing, int) and not isinstance(thing, bool)


def is_name(thing):
    """Whether anything is a name."""
    if not isinstance(thing, str) or not 1 <= len(thing) <= LONGEST_NAME:
        return False
    return all([letter in LETTERS for letter in thing])


def is_pick(thing, many, bound):
    """Whether anything is a tuple of so many unlike whole numbers from 0 to below the bound."""
    if not isinstance(thing, tuple) or len(thing) != many:
        return False
    if not all([is_whole(number) and 0 <= number < bound for number in thing]):
        return False
    return len(set(thing)) == many


def is_rising(row):
    """Whether each thing of a list or tuple is greater than the one ahead of it."""
    return all([low < high for low, high in zip(row, row[1:])])


def plain_text(text):
    """The text as just a str, even where it came as a class made from it."""
    return "".join(text)


def plain_numbers(numbers):
    """The numbers as just a tuple of ints, even where they came as classes made from these."""
    return tuple([int(number) for number in numbers])


def read_numbers(words, bound):
    """The numbers below the bound that the words write, as a tuple; None where one writes none."""
    # Looked up and not given to int, which also reads signs, blanks and noughts ahead.
    written = [str(number) for number in range(bound)]
    if not all([word in written for word in words]):
        return None
    return tuple([written.index(word) for word in words])

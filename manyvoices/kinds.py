"""Tells of any objects whether they are integers, lists, words."""

LONGEST_WORD = 8


def is_integer(thing):
    """Tells whether a thing is an integer; a truth value is none."""
    return isinstance(thing, int) and not isinstance(thing, bool)


def is_list(thing):
    """Tells whether a thing is a list, or a tuple, which may stand for one."""
    return isinstance(thing, (list, tuple))


def is_row(thing, length):
    """Tells whether a thing is a list of so many things."""
    return is_list(thing) and len(thing) == length


def is_word(thing):
    """Tells whether a thing is a string of one to eight letters a to z."""
    if not isinstance(thing, str) or len(thing) > LONGEST_WORD:
        return False
    return thing.isascii() and thing.isalpha() and thing.islower()


def first_unfit(words):
    """Returns the index of the first thing that is no word or stood before, or None."""
    for index, word in enumerate(words):
        if not is_word(word) or word in words[:index]:
            return index
    return None

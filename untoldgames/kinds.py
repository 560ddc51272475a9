"""What several files ask of a thing that was passed, whatever it is: each answers with a flag."""

MOST_WORDS = 60


def is_integer(thing):
    """Tells whether a thing is an integer."""
    # To Python a flag is an int, too; here it is no number.
    return isinstance(thing, int) and not isinstance(thing, bool)


def is_within(thing, low, high):
    """Tells whether a thing is an integer from low to high."""
    return is_integer(thing) and low <= thing <= high


def is_side(thing):
    """Tells whether a thing is a side."""
    return is_within(thing, 0, 1)


def is_lettered(thing, most):
    """Tells whether a thing is a string of 1 to most letters a to z."""
    if not isinstance(thing, str) or not 1 <= len(thing) <= most:
        return False
    return all(["a" <= sign <= "z" for sign in thing])


def is_word(thing):
    """Tells whether a thing is a word."""
    return is_lettered(thing, 20)


def is_name(thing):
    """Tells whether a thing is the name of a game."""
    return is_lettered(thing, 8)


def is_words(thing, most):
    """Tells whether a thing is a tuple of at most so many words."""
    return isinstance(thing, tuple) and len(thing) <= most and all([is_word(word) for word in thing])


def is_row(thing):
    """Tells whether a thing is a row."""
    return is_words(thing, MOST_WORDS)


def is_ascending(things):
    """Tells whether things that can be compared ascend, each being there once."""
    return all([one < other for one, other in zip(things, things[1:])])


def is_lot(thing, many):
    """Tells whether a thing is a lot of numbers below many."""
    if not isinstance(thing, tuple) or not all([is_within(number, 0, many - 1) for number in thing]):
        return False
    return is_ascending(thing)


def are_numbers(thing, many, most):
    """Tells whether a thing is a tuple of so many integers from 0 to most."""
    return isinstance(thing, tuple) and len(thing) == many and all([is_within(number, 0, most) for number in thing])

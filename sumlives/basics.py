"""What the other modules share: integers, names, vectors, and the numbers of texts."""

NO_NAMES = ("none", "to", "old", "new", "one", "not")


def is_integer(value):
    """Whether a value is an int, but no bool."""
    return isinstance(value, int) and not isinstance(value, bool)


def is_sequence(value):
    """Whether a value is a list or a tuple."""
    return isinstance(value, (list, tuple))


def is_name(value):
    """Whether a value is a name."""
    # Other scripts have lower-case letters, too, and islower takes them.
    return (isinstance(value, str) and len(value) <= 4 and value.isascii() and value.isalpha() and value.islower()
            and value not in NO_NAMES)


def are_names(value):
    """Whether a value is a list or tuple of unlike names."""
    return is_sequence(value) and all([is_name(part) for part in value]) and len(set(value)) == len(value)


def is_width(value):
    """Whether vectors can have this width."""
    return is_integer(value) and value >= 1


def is_vector(value, width):
    """Whether a value is a tuple of so many integers."""
    return isinstance(value, tuple) and len(value) == width and all([is_integer(part) for part in value])


def are_vectors(value, width):
    """Whether a value is a list or tuple of vectors of this width."""
    return is_sequence(value) and all([is_vector(part, width) for part in value])


def added(vector, times, other):
    """A vector and so many times another one."""
    return tuple([number + times * more for number, more in zip(vector, other)])


def value_at(form, vector):
    """The sum of the products of the numbers of a form and a vector."""
    return sum([number * times for number, times in zip(vector, form)])


def pivot_of(vector):
    """The place of the first number that is not 0, or the width if there is none."""
    for at, number in enumerate(vector):
        if number != 0:
            return at
    return len(vector)


def is_zero(vector):
    """Whether all numbers of a vector are 0."""
    return pivot_of(vector) == len(vector)


def written(vector):
    """The numbers of a vector as a text."""
    return " ".join([str(number) for number in vector])


def read_number(word, digits):
    """The integer that a word tells in at most so many digits, or None if it tells none."""
    figures = word[1:] if word.startswith("-") else word
    # Other scripts have digits, too, and isdigit takes them.
    if not figures.isascii() or not figures.isdigit() or len(figures) > digits:
        return None
    if figures.startswith("0") and word != "0":
        return None
    return int(word)

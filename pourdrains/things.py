"""What any value is made of: the plain questions that all other checks ask."""


def is_integer(thing):
    """Whether any value is an integer; a bool is none."""
    return isinstance(thing, int) and not isinstance(thing, bool)


def is_within(thing, least, most):
    """Whether any value is an integer from least to most."""
    return is_integer(thing) and least <= thing <= most


def has_items(thing, many):
    """Whether any value is a tuple with so many items."""
    return isinstance(thing, tuple) and len(thing) == many


def is_ascending(items):
    """Whether items that can be compared ascend, none of them twice."""
    return all(items[at] < items[at + 1] for at in range(len(items) - 1))


def is_pair_of(many, thing):
    """Whether any value is a pair of unlike integers from 0 up to one less than many."""
    if not has_items(thing, 2):
        return False
    a, b = thing
    return is_within(a, 0, many - 1) and is_within(b, 0, many - 1) and a != b


def are_pairs_of(many, thing):
    """Whether any value is an ascending tuple of such pairs."""
    return isinstance(thing, tuple) and all(is_pair_of(many, pair) for pair in thing) and is_ascending(thing)


def is_just(thing, wanted):
    """Whether any value is just what is wanted, a value of tuples; True is not 1 here."""
    if isinstance(wanted, tuple):
        return has_items(thing, len(wanted)) and all(is_just(a, b) for a, b in zip(thing, wanted))
    return thing == wanted and isinstance(thing, bool) == isinstance(wanted, bool)

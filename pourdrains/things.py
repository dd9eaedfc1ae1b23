"""What any value is made of: the plain questions that all other checks ask."""


def is_integer(thing):
    """Whether any value is an integer; a bool is none."""
    return isinstance(thing, int) and not isinstance(thing, bool)


def is_within(thing, least, most):
    """Whether any value is an integer from least to most."""
    return is_integer(thing) and least <= thing <= most


def has_items(thing, many):
    """Whether any value is a tuple with so many items."""
    return isinstance(thing, tuple) and len(thing) == many


def is_ascending(items):
    """Whether items that can be compared ascend, none of them twice."""
    return all(items[at] < items[at + 1] for at in range(len(items) - 1))

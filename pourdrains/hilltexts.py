"""Hills as texts, written and read."""

from pourdrains.errors import BadText
from pourdrains.hills import MOST_TERRACES, is_hill, need_hill


def hill_text(hill):
    """The text of a hill."""
    need_hill(hill)
    many, pairs = hill
    return "\n".join([f"hill {many}"] + [f"{a} {b}" for a, b in pairs])


def read_hill(text):
    """The hill with a text."""
    if not isinstance(text, str):
        raise BadText(0)
    lines = text.split("\n")
    many = _heads().get(lines[0])
    if many is None:
        raise BadText(1)
    book = many, _read_pairs(many, lines)
    if not is_hill(book):
        raise BadText(len(lines) + 1)
    return book


def _heads():
    return {f"hill {many}": many for many in range(1, MOST_TERRACES + 1)}


def _read_pairs(many, lines):
    # Looking lines up among those that can be written leaves no other spelling of a number.
    known = {f"{a} {b}": (a, b) for a in range(many) for b in range(many) if a != b}
    pairs = []
    for at in range(1, len(lines)):
        pair = known.get(lines[at])
        if pair is None or (pairs and pair <= pairs[-1]):
            raise BadText(at + 1)
        pairs.append(pair)
    return tuple(pairs)

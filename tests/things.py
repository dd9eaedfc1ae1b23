"""Any values: strange ones, and valid ones that were changed at one place."""

from pourdrains.works import Works


class Odd:
    """Stands for an object of a class of its own."""


def made_works():
    """Works with a promise, with something to undo and something to do again."""
    works = Works((2, ((0, 1),)), (0,))
    works.promise(("wet", 0))
    works.do((("pour", 1),))
    works.do((("open", 1),))
    works.undo()
    return works


def state_of(works):
    """All that can be read of works."""
    return (
        works.hill(),
        works.water(),
        works.promises(),
        works.book_of_deeds(),
        works.text(),
        works.undoable(),
        works.redoable(),
    )


def deep(many):
    thing = ()
    for _ in range(many):
        thing = (thing,)
    return thing


WORKS = made_works()

THINGS = [
    None,
    True,
    False,
    0,
    1,
    2,
    3,
    10,
    11,
    1000,
    1001,
    -1,
    10 ** 39,
    -(10 ** 39),
    "",
    "pour",
    "open",
    "lower",
    "hill 1",
    "hill 2\n0 1",
    "a" * 800,
    " ~\n",
    (),
    (0,),
    (1,),
    (0, 1),
    (1, 0),
    (0, 0),
    (0, 1, 2),
    (True,),
    (False, True),
    (None,),
    ("0",),
    ((),),
    ((), ()),
    ((0,), ()),
    ((), (0,)),
    ((0,), (0,)),
    ((0, 1),),
    ((1, 0),),
    ((0, 1), (1, 0)),
    ((False, True),),
    ([0, 1],),
    [],
    [0],
    [0, 1],
    [[0, 1]],
    {},
    {0: 1},
    {"hill": (1, ())},
    (1, ()),
    (True, ()),
    (1, []),
    [1, ()],
    (0, ()),
    (2, ((0, 1),)),
    (2, ((0, True),)),
    (2, [(0, 1)]),
    (2, ([0, 1],)),
    (2, ((0, 2),)),
    (2, ((0, 0),)),
    (2, ((1, 0), (0, 1))),
    (2, ((0, 1), (0, 1))),
    (3, ((0, 1), (1, 2))),
    (11, ()),
    ("1", ()),
    ("pour", 0),
    ("open", 0),
    ("pour", True),
    ("pour", "0"),
    ("drain", 0),
    ["pour", 0],
    (("pour", 0),),
    [("pour", 0)],
    ("lower",),
    ("missing", 0, 1),
    ("script", ()),
    ("table", ()),
    ("table", (((), 0),)),
    ((1, 1), (1, 1)),
    ((1, 1000), (1, 1)),
    ((1, 0), (1, 1)),
    deep(8),
    tuple(range(300)),
    Odd(),
    WORKS,
    (WORKS,),
    [WORKS],
    {"works": WORKS},
    (WORKS, WORKS),
    (1, WORKS),
    (2, ((0, WORKS),)),
    ("pour", WORKS),
    ("script", (WORKS,)),
]

FEW = [None, True, False, 0, 1, 2, -1, 10 ** 39, "", "pour", "open", (), (0,), (1,), [], {}, ("pour", 0), ((), 1), WORKS]


def changed(value, others=THINGS):
    """Valid values made odd: each of their places replaced, left out, exchanged and repeated."""
    yield from others
    if not isinstance(value, tuple):
        return
    yield list(value)
    yield value + value
    for at, item in enumerate(value):
        yield value[:at] + value[at + 1 :]
        yield value[: at + 1] + value[at:]
        if at:
            yield value[: at - 1] + (value[at], value[at - 1]) + value[at + 1 :]
        for other in changed(item, others):
            yield value[:at] + (other,) + value[at + 1 :]

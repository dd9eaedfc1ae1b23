"""Steps that lead a script of a book to another one that is alike, and tidy scripts."""

from pourdrains.checks import need_script
from pourdrains.errors import BadStep
from pourdrains.hills import need_book
from pourdrains.masks import above_masks, closed
from pourdrains.stepping import led_by
from pourdrains.tidying import tidied


def stepped(book, script, step):
    """The script to which a step leads."""
    need_book(book)
    need_script(book[0], script)
    led = led_by(above_masks(closed(book)), script, step)
    if led is None:
        raise BadStep(step)
    return led


def tidy(book, script):
    """The tidy script that is alike to a script."""
    need_book(book)
    need_script(book[0], script)
    return tidied(closed(book), script)[1]


def is_tidy(book, script):
    """Whether a script is tidy."""
    return tidy(book, script) == script

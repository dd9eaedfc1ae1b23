"""[4.4] steps, [4.7] tidy scripts."""

from pourdrains.errors import BadBook, BadScript, BadStep
from pourdrains.steps import is_tidy, stepped, tidy
from tests import plain, plain_books
from tests.same import Case
from tests.test_scripts import long_script
from tests.things import THINGS, changed

ONE = (1, ())
RING = (3, ((0, 1), (1, 2), (2, 0)))
OPEN_CHAIN = (3, ((0, 1), (1, 2)))
BOOKS_2 = plain.books(1) + plain.books(2)
BOOKS_3 = plain.books(3)[::7] + [OPEN_CHAIN, RING, (3, ((0, 2), (1, 2))), (3, ((1, 2), (2, 1))), (3, ((2, 0),))]
SIXES = [
    (6, ()),
    (6, ((0, 1), (1, 2), (2, 3), (3, 4), (4, 5))),
    (6, ((1, 0), (2, 1), (3, 2), (4, 3), (5, 4))),
    (6, ((0, 2), (1, 2), (2, 3), (4, 5), (5, 4))),
    (6, ((0, 1), (1, 2), (2, 3), (3, 4), (4, 5), (5, 0))),
    (6, ((1, 4), (2, 4), (2, 5), (3, 5))),
    (6, ((1, 3), (2, 4), (3, 1), (4, 2))),
]


class Stepped(Case):
    def hold(self, book, script, step):
        wanted = plain_books.stepped(book, script, step)
        if wanted is None:
            self.fails(BadStep, {"thing": step}, stepped, book, script, step)
        else:
            self.same(stepped(book, script, step), wanted, (book, script, step))
        return wanted is not None

    def test_all_steps_on_short_scripts(self):
        done = 0
        for book in BOOKS_2 + BOOKS_3[::2]:
            for script in plain.scripts_of(book, 3 if book[0] < 3 else 2)[:: 1 if book[0] < 3 else 3]:
                for step in plain_books.steps_at(book, script):
                    done += self.hold(book, script, step)
        self.assertGreater(done, 1000)

    def test_steps_on_longer_scripts(self):
        for book in BOOKS_3 + SIXES:
            script = long_script(book, 24 if book[0] > 3 else 6, 5)
            for step in plain_books.steps_at(book, script)[:: 1 if book[0] < 4 else 17]:
                self.hold(book, script, step)

    def test_by_the_closing_of_the_book(self):
        self.same(stepped(OPEN_CHAIN, (("pour", 0), ("open", 1), ("pour", 2)), ("strike", 0, 2)), (("open", 1), ("pour", 2)))
        self.same(stepped(OPEN_CHAIN, (("open", 2), ("open", 0)), ("strike", 0, 1)), (("open", 0),))
        self.same(stepped(RING, (("open", 2), ("pour", 0)), ("put", 0, ("pour", 1), 2))[0], ("pour", 1))
        self.fails(BadStep, {"thing": ("strike", 0, 1)}, stepped, OPEN_CHAIN, (("open", 0), ("open", 2)), ("strike", 0, 1))

    def test_edges(self):
        for step in [("swap", 0), ("strike", 0, 0), ("strike", 0, 1), ("put", 0, ("pour", 0), 0), ("put", 0, ("pour", 0), 1)]:
            self.fails(BadStep, {"thing": step}, stepped, ONE, (), step)
        pair = (("pour", 0), ("pour", 0))
        self.same(stepped(ONE, pair, ("swap", 0)), pair)
        self.same(stepped(ONE, pair, ("strike", 0, 1)), pair[:1])
        self.same(stepped(ONE, pair, ("put", 1, ("pour", 0), 2)), pair + pair[:1])
        # What is put in at the end has nothing behind it that could take it out.
        self.fails(BadStep, {"thing": ("put", 2, ("pour", 0), 1)}, stepped, ONE, pair, ("put", 2, ("pour", 0), 1))
        # A deed behind does not go out for one ahead of it.
        self.fails(BadStep, {"thing": ("strike", 1, 0)}, stepped, ONE, pair, ("strike", 1, 0))

    def test_done_and_back(self):
        for book in BOOKS_2 + BOOKS_3[::3]:
            for stride in range(1, 5):
                script = long_script(book, 4, stride)
                for step in plain_books.steps_at(book, script):
                    led = plain_books.stepped(book, script, step)
                    if led is not None:
                        self.same(stepped(book, led, self.back(script, step)), script, (book, script, step))

    def back(self, script, step):
        if step[0] == "strike":
            return ("put", step[1], script[step[1]], step[2])
        return ("strike", step[1], step[3]) if step[0] == "put" else step

    def test_the_same_is_left_at_all_kinds(self):
        for book in BOOKS_2 + BOOKS_3[::4]:
            for stride in range(1, 4):
                script = long_script(book, 5, stride)
                for step in plain_books.steps_at(book, script):
                    if plain_books.stepped(book, script, step) is not None:
                        led = stepped(book, script, step)
                        self.assertEqual(plain_books.standings(book, led), plain_books.standings(book, script))

    def test_any_values(self):
        book = (2, ((0, 1),))
        script = (("pour", 0), ("pour", 1), ("open", 1), ("open", 0))
        for good in [("swap", 0), ("swap", 2), ("strike", 0, 1), ("strike", 2, 3), ("put", 1, ("pour", 0), 2)]:
            self.assertTrue(self.hold(book, script, good))
            for thing in changed(good):
                self.hold(book, script, thing)

    def test_errors_in_order(self):
        for thing in THINGS:
            if not plain.is_book(thing):
                self.fails(BadBook, {"thing": thing}, stepped, thing, None, None)
            if not plain.is_script(2, thing):
                self.fails(BadScript, {"thing": thing}, stepped, step=None, script=thing, book=(2, ()))
            if plain_books.stepped((2, ()), (("pour", 0),), thing) is None:
                self.fails(BadStep, {"thing": thing}, stepped, step=thing, script=(("pour", 0),), book=(2, ()))


class Tidy(Case):
    def hold(self, book, many):
        """Of the scripts of a few deeds that are alike, just one is tidy, and it is a shortest one."""
        groups = {}
        for script in plain.scripts_of(book, many):
            groups.setdefault(plain_books.standings(book, script), []).append(script)
        for scripts in groups.values():
            wanted = [script for script in scripts if plain_books.is_tidy(book, script)]
            self.assertEqual(len(wanted), 1, (book, scripts))
            self.assertEqual(len(wanted[0]), min(map(len, scripts)))
            self.assertEqual(len(wanted[0]), len(set(wanted[0])))
            for script in scripts:
                self.same(tidy(book, script), wanted[0], (book, script))
                self.same(is_tidy(book, script), script == wanted[0], (book, script))

    def test_one_name(self):
        self.hold(ONE, 6)

    def test_two_names(self):
        for book in plain.books(2):
            self.hold(book, 4)

    def test_three_names(self):
        for book in BOOKS_3:
            self.hold(book, 3)

    def test_long_scripts(self):
        for book in BOOKS_3 + SIXES:
            for stride in range(1, 8):
                script = long_script(book, 24, stride)
                found = tidy(book, script)
                self.assertTrue(plain_books.is_tidy(book, found), (book, script, found))
                self.assertEqual(len(found), len(set(found)))
                for kind in plain_books.named_kinds(book):
                    self.assertEqual(plain_books.standing(found, kind), plain_books.standing(script, kind))
                self.same(is_tidy(book, found), True)
                self.same(is_tidy(book, script), False)

    def test_tidy_scripts_of_six_names(self):
        flat = (6, ())
        long = tuple((sort, name) for sort in ("open", "pour") for name in range(6))
        self.same([tidy(flat, long[::-1] + long), is_tidy(flat, long)], [long, True])
        turns = tuple((("pour", "open")[at % 2], at) for at in range(6))
        self.same([tidy(flat, turns), is_tidy(flat, turns)], [turns, True])

    def test_ponds(self):
        self.same(tidy(RING, (("open", 2), ("pour", 1), ("pour", 2))), (("open", 0), ("pour", 0)))
        self.same(is_tidy(RING, (("pour", 1),)), False)
        self.same(is_tidy(RING, (("pour", 0),)), True)

    def test_edges(self):
        for book in [ONE, RING, (6, ())]:
            self.same([tidy(book, ()), is_tidy(book, ())], [(), True])
        self.same(tidy(ONE, (("pour", 0),) * 24), (("pour", 0),))
        # A swap leads to a script with a deed that can be struck.
        self.same(is_tidy((2, ((0, 1),)), (("pour", 1), ("pour", 0))), False)
        # What goes out brings two runs together.
        self.same(tidy((2, ((0, 1),)), (("pour", 1), ("open", 1), ("pour", 0), ("open", 0))), (("pour", 1), ("open", 0)))

    def test_errors_in_order(self):
        for function in (tidy, is_tidy):
            for thing in THINGS:
                if not plain.is_book(thing):
                    self.fails(BadBook, {"thing": thing}, function, thing, None)
                if not plain.is_script(2, thing):
                    self.fails(BadScript, {"thing": thing}, function, script=thing, book=(2, ()))

"""[4.1] hills that fit, [4.2] kinds and worlds, [4.3] standings."""

from itertools import product

from pourdrains.errors import BadBook, BadKind, BadNumber, BadScript, BadTerrace
from pourdrains.kinds import is_kind, kind_in, standing, world_of
from tests import plain, plain_books
from tests.plain_books import kinds_of
from tests.same import Case
from tests.test_hills import LINE_10, POND_10
from tests.test_scripts import long_script
from tests.things import THINGS, changed

BOOKS = [book for many in (1, 2, 3) for book in plain.books(many)]
CHAIN = (6, ((0, 1), (1, 2), (2, 3), (4, 5)))
RING = (3, ((0, 1), (1, 2), (2, 0)))


def kind_of(hill, names, terrace):
    low = tuple(name for name in range(names) if plain.leq(hill, name, terrace))
    high = tuple(name for name in range(names) if plain.leq(hill, terrace, name))
    return (low, high)


class Kinds(Case):
    def test_all_small_books(self):
        for book in BOOKS:
            good = kinds_of(book)
            for thing in product(plain.lots(book[0]), repeat=2):
                self.same(is_kind(book, thing), thing in good, (book, thing))

    def test_common_names(self):
        self.same([is_kind((1, ()), ((0,), (0,))), is_kind(RING, ((0, 1, 2), (0, 1, 2)))], [True, True])
        self.same([is_kind(RING, ((0,), ())), is_kind((2, ((0, 1),)), ((0, 1), (0, 1)))], [False, True])

    def test_by_the_closing_of_the_book(self):
        self.same(is_kind((3, ((0, 1), (1, 2))), ((1, 2), ())), False)
        self.same(is_kind((3, ((0, 1), (1, 2))), ((0, 1, 2), (2,))), True)

    def test_any_values(self):
        for book in [(1, ()), (2, ((0, 1),)), (3, ((0, 1), (1, 2)))]:
            good = [repr(kind) for kind in kinds_of(book)]
            for kind in kinds_of(book)[::4]:
                for thing in changed(kind):
                    self.same(is_kind(book=book, thing=thing), repr(thing) in good, (book, thing))


class Worlds(Case):
    def test_all_small_books(self):
        for book in BOOKS:
            for kind in kinds_of(book)[::3]:
                self.hold(book, kind)

    def test_six_names(self):
        for kind in kinds_of(CHAIN)[::20]:
            self.hold(CHAIN, kind)

    def hold(self, book, kind):
        k = book[0]
        below, above = kind
        pairs = set(book[1]) | {(low, k) for low in below} | {(k, high) for high in above}
        world = world_of(book, kind)
        self.same(world, plain.closing((k + 1, tuple(sorted(pairs)))), (book, kind))
        self.assertTrue(plain.is_hill(world))
        # It fits the book, and the further terrace is of just this kind.
        self.assertLessEqual(set(book[1]), set(world[1]))
        self.same(kind_in(world, k, k), kind)

    def test_errors(self):
        for thing in THINGS:
            if not plain.is_book(thing):
                self.fails(BadBook, {"thing": thing}, world_of, thing, None)
            if not plain.is_kind((2, ((0, 1),)), thing):
                self.fails(BadKind, {"thing": thing}, world_of, (2, ((0, 1),)), thing)


class Standings(Case):
    def test_all_small_books(self):
        for book in BOOKS[:5] + BOOKS[5::6]:
            for script in plain.scripts_of(book, 2) + [long_script(book, 24, stride) for stride in (1, 2, 3)]:
                for kind in kinds_of(book)[::2]:
                    self.same(standing(book, script, kind), plain_books.standing(script, kind))

    def test_as_a_further_terrace_is_left(self):
        for book in BOOKS[:5] + BOOKS[5::6] + [CHAIN]:
            for kind in kinds_of(book)[:: 5 if book[0] < 4 else 40]:
                world = world_of(book, kind)
                for stride in range(1, 5):
                    script = long_script(book, 4, stride)
                    left = standing(book, script, kind)
                    k = book[0]
                    for water in plain.waters(world):
                        wet = k in plain.run(world, water, script)
                        self.assertEqual(wet, {"wet": True, "dry": False, "kept": k in water}[left])

    def test_nothing_reaches(self):
        self.same(standing((1, ()), (), ((0,), (0,))), "kept")
        self.same(standing((1, ()), (("pour", 0), ("open", 0)), ((), ())), "kept")

    def test_errors_in_order(self):
        book = (2, ((0, 1),))
        for thing in THINGS:
            if not plain.is_book(thing):
                self.fails(BadBook, {"thing": thing}, standing, thing, None, None)
            if not plain.is_script(2, thing):
                self.fails(BadScript, {"thing": thing}, standing, book, thing, None)
            if not plain.is_kind(book, thing):
                self.fails(BadKind, {"thing": thing}, standing, kind=thing, script=(), book=book)


class KindsIn(Case):
    def test_all_small_hills(self):
        for hill in plain.small_hills() + plain.hills(4)[::7] + [LINE_10, POND_10]:
            for names in range(1, hill[0] + 1):
                for at in range(hill[0]):
                    self.same(kind_in(hill, names, at), kind_of(hill, names, at), (hill, names, at))

    def test_a_name_is_at_itself(self):
        self.same(kind_in((2, ()), 2, 1), ((1,), (1,)))
        self.same(kind_in((2, ()), 1, 1), ((), ()))

    def test_errors_in_order(self):
        hill = (3, ((0, 1),))
        for thing in THINGS:
            within = type(thing) is int and 1 <= thing <= 3
            if not within:
                self.fails(BadNumber, {"thing": thing}, kind_in, hill, thing, None)
            if not (type(thing) is int and 0 <= thing < 3):
                self.fails(BadTerrace, {"thing": thing}, kind_in, terrace=thing, names=3, hill=hill)

"""[1.1] hills, [1.2] books, [1.5] hills made of hills."""

from itertools import permutations

from pourdrains.errors import BadHill, BadNames
from pourdrains.hills import beside, closing, is_book, is_hill, is_tree, led_hill, mirror, product
from tests import plain
from tests.same import Case
from tests.things import changed

LINE_10 = (10, tuple((a, b) for a in range(10) for b in range(a + 1, 10)))
POND_10 = (10, tuple((a, b) for a in range(10) for b in range(10) if a != b))
FLAT_10 = (10, ())


class Hills(Case):
    def test_all_small_ones(self):
        counts = [sum(is_hill(book) for book in plain.books(many)) for many in (1, 2, 3, 4)]
        self.assertEqual(counts, [1, 4, 29, 355])
        for book in plain.books(3):
            self.same(is_book(book), True)
            self.same(is_hill(book), plain.is_hill(book), book)

    def test_ten_terraces(self):
        for hill in (LINE_10, POND_10, FLAT_10):
            self.same([is_hill(hill), is_book(hill)], [True, True])
            for at in range(len(hill[1])):
                rest = (10, hill[1][:at] + hill[1][at + 1 :])
                self.same([is_hill(rest), is_book(rest)], [plain.is_hill(rest), True])

    def test_bounds_of_numbers(self):
        for many in (0, 11, -1, 10 ** 39, True, "1", None):
            self.same([is_hill((many, ())), is_book((many, ()))], [False, False])
        for pair in [(0, 3), (3, 0), (-1, 0), (0, -1), (1, 1), (0, 10 ** 39), (True, 0), (0, False)]:
            self.same([is_hill((3, (pair,))), is_book((3, (pair,)))], [False, False], pair)

    def test_pairs_in_order_and_once(self):
        self.same(is_book((3, ((0, 1), (0, 2)))), True)
        self.same(is_book((3, ((0, 2), (0, 1)))), False)
        self.same(is_book((3, ((0, 1), (0, 1)))), False)

    def test_any_values(self):
        for good in [(1, ()), (2, ((0, 1),)), (3, ((0, 1), (0, 2), (1, 0), (1, 2)))]:
            for thing in changed(good):
                self.same(is_hill(thing), plain.is_hill(thing), thing)
                self.same(is_hill(thing=thing), plain.is_hill(thing), thing)
                self.same(is_book(thing), plain.is_book(thing), thing)
                self.same(is_book(thing=thing), plain.is_book(thing), thing)


class Closings(Case):
    def test_all_small_books(self):
        for many in (1, 2, 3):
            for book in plain.books(many):
                self.same(closing(book), plain.closing(book), book)

    def test_fewest_pairs(self):
        every = plain.hills(3)
        for book in plain.books(3):
            around = [hill for hill in every if set(book[1]) <= set(hill[1])]
            self.same(closing(book), min(around, key=lambda hill: len(hill[1])))

    def test_a_hill_is_its_own(self):
        for hill in plain.small_hills() + [LINE_10, POND_10, FLAT_10]:
            self.same(closing(hill), hill)

    def test_long_chains(self):
        chain = (10, tuple((a, a + 1) for a in range(9)))
        self.same(closing(chain), LINE_10)
        self.same(closing((10, tuple(sorted(chain[1] + ((9, 0),))))), POND_10)
        back = (10, tuple((a, a - 1) for a in range(1, 10)))
        self.same(closing(back), mirror(LINE_10))


class Mirrors(Case):
    def test_all_small_ones(self):
        for hill in plain.small_hills():
            self.same(mirror(hill), (hill[0], tuple(sorted((b, a) for a, b in hill[1]))))
            self.same(mirror(mirror(hill)), hill)


class Trees(Case):
    def test_all_small_ones(self):
        for many in (1, 2, 3, 4):
            for hill in plain.hills(many):
                self.same(is_tree(hill), plain.is_tree(hill), hill)

    def test_mirrors_of_trees(self):
        down = (3, ((0, 2), (1, 2)))
        self.same([is_tree(down), is_tree(mirror(down))], [True, False])

    def test_ten_terraces(self):
        self.same([is_tree(LINE_10), is_tree(mirror(LINE_10))], [True, True])
        self.same([is_tree(FLAT_10), is_tree(POND_10)], [True, False])


class Renamings(Case):
    def test_the_item_at_a_is_the_new_name_of_a(self):
        for hill in plain.small_hills():
            for names in permutations(range(hill[0])):
                wanted = (hill[0], tuple(sorted((names[a], names[b]) for a, b in hill[1])))
                self.same(led_hill(hill, names), wanted)
                self.assertTrue(plain.is_hill(wanted))

    def test_no_renamings(self):
        for hill in [(1, ()), (3, ((0, 1),))]:
            good = [repr(names) for names in permutations(range(hill[0]))]
            for thing in changed(tuple(range(hill[0]))):
                if repr(thing) not in good:
                    self.fails(BadNames, {"thing": thing}, led_hill, hill, thing)


class Joined(Case):
    def test_beside(self):
        for one in plain.small_hills():
            for other in plain.hills(2):
                n, m = one[0], other[0]
                pairs = list(one[1]) + [(n + a, n + b) for a, b in other[1]]
                self.same(beside(one, other), (n + m, tuple(sorted(pairs))))
                self.assertTrue(is_hill(beside(one, other)))

    def test_product(self):
        for one in plain.small_hills():
            for other in plain.hills(2) + [(1, ())]:
                m = other[0]
                points = [(a, b) for a in range(one[0]) for b in range(m)]
                pairs = [
                    (a * m + b, c * m + d)
                    for a, b in points
                    for c, d in points
                    if (a, b) != (c, d) and plain.leq(one, a, c) and plain.leq(other, b, d)
                ]
                self.same(product(one, other), (one[0] * m, tuple(sorted(pairs))))
                self.assertTrue(is_hill(product(one, other)))

    def test_ten_terraces(self):
        line = (5, tuple((a, b) for a in range(5) for b in range(a + 1, 5)))
        pond = (2, ((0, 1), (1, 0)))
        self.assertEqual(beside(line, line)[0], 10)
        self.assertTrue(is_hill(beside(line, line)))
        for made in [product(line, pond), product(pond, line), product(line, (2, ())), product((1, ()), FLAT_10)]:
            self.assertEqual(made[0], 10)
            self.assertTrue(is_hill(made))
        self.same(product((1, ()), LINE_10), LINE_10)
        self.same(product(LINE_10, (1, ())), LINE_10)

    def test_the_first_that_is_no_hill(self):
        wrong, worse = [1], (3, ((0, 1), (1, 2)))
        for function in (beside, product):
            self.fails(BadHill, {"thing": wrong}, function, wrong, worse)
            self.fails(BadHill, {"thing": worse}, function, (1, ()), worse)
            self.fails(BadHill, {"thing": worse}, function, other=wrong, one=worse)

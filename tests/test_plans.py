"""[5.1] plans, weavings, hands."""

from math import factorial

from pourdrains.errors import BadBook, BadPlan, BadWeaving
from pourdrains.plans import is_plan, is_weaving, many_weavings, plan_of_hands, weavings, woven
from tests import plain, plain_books
from tests.same import Case
from tests.test_scripts import long_script
from tests.things import FEW, THINGS, changed

ONE = (1, ())
STEP = (2, ((0, 1),))
EMPTY = ((), ())
FIVE = (5, ((0, 1), (1, 2), (3, 4), (4, 3)))
PLAN = ((("pour", 0), ("pour", 1), ("open", 0)), ((0, 1),))

# The pairs of plans of eight deeds with few weavings and with many.
EIGHTS = {
    tuple((at, at + 1) for at in range(7)): 1,
    ((0, 1), (1, 2), (2, 3), (4, 5), (5, 6), (6, 7)): 70,
    ((0, 1), (2, 3), (4, 5), (6, 7)): 2520,
    ((0, 1), (1, 2), (3, 4), (4, 5), (6, 7)): 560,
    tuple((0, at) for at in range(1, 8)) + tuple((at, 7) for at in range(1, 7)): 720,
    ((1, 0), (2, 1), (3, 2), (4, 2), (5, 2), (6, 2), (7, 2)): 120,
    ((0, 2), (0, 3), (1, 2), (1, 3), (4, 6), (4, 7), (5, 6), (5, 7)): 1120,
}


def eight_deeds(book, stride=3):
    return long_script(book, 8, stride)


def small_plans():
    found = []
    for book, many, stride in [(ONE, 0, 1), (ONE, 1, 1), (ONE, 2, 1), (ONE, 3, 3), (STEP, 3, 17), (STEP, 4, 3331)]:
        found += [(book, plan) for plan in plain_books.plans_of(book, many, stride)]
    return found


class Plans(Case):
    def test_all_pairs_of_three_deeds(self):
        deeds = (("pour", 0), ("open", 0), ("pour", 0))
        every = plain.books(3)
        good = [pairs for _, pairs in every if plain_books.is_plan(1, (deeds, pairs))]
        self.assertEqual(len(good), 25)
        for _, pairs in every:
            self.same(is_plan(ONE, (deeds, pairs)), pairs in good)

    def test_rings_of_pairs(self):
        for many in (2, 3, 8, 40):
            deeds = (("pour", 0),) * many
            row = tuple((at, at + 1) for at in range(many - 1))
            self.same(is_plan(ONE, (deeds, row)), True)
            self.same(is_plan(ONE, (deeds, row + ((many - 1, 0),))), False)
            back = tuple((at + 1, at) for at in range(many - 1))
            self.same(is_plan(ONE, (deeds, back)), True)
            self.same(is_plan(ONE, (deeds, tuple(sorted(back + ((0, many - 1),))))), False)

    def test_edges(self):
        for book in [ONE, STEP, (10, ())]:
            self.same(is_plan(book, EMPTY), True)
            self.same(is_plan(book, ((), ((0, 1),))), False)
        self.same(is_plan(ONE, ((("pour", 0),), ((0, 0),))), False)
        self.same(is_plan(ONE, ((("pour", 1),), ())), False)
        self.same(is_plan(ONE, ((("pour", 0),) * 2, ((1, 0),))), True)
        self.same(is_plan(ONE, ((("pour", 0),) * 2, ((1, 2),))), False)
        self.same(is_plan(ONE, ((("pour", 0),) * 3, ((1, 2), (0, 1)))), False)

    def test_any_values(self):
        for thing in changed(PLAN):
            self.same(is_plan(book=STEP, thing=thing), plain_books.is_plan(2, thing), thing)


class Hands(Case):
    def test_pairs_within_each_hand(self):
        pour, drain = ("pour", 0), ("open", 0)
        self.same(plan_of_hands(ONE, ((),)), EMPTY)
        self.same(plan_of_hands(ONE, ((), (), (), ())), EMPTY)
        self.same(plan_of_hands(ONE, ((pour,),)), ((pour,), ()))
        self.same(plan_of_hands(ONE, ((pour, drain), (), (drain,), (pour, pour, drain)))[1], ((0, 1), (3, 4), (4, 5)))
        self.same(plan_of_hands(ONE, ((), (pour, drain, pour)))[1], ((0, 1), (1, 2)))

    def test_weavings_of_hands(self):
        for lengths in [(0,), (3,), (2, 2), (0, 3, 1), (1, 1, 1, 1), (2, 3, 2), (4, 4), (2, 0, 2, 1)]:
            hands = tuple(long_script(FIVE, many, at + 2) for at, many in enumerate(lengths))
            plan = plan_of_hands(FIVE, hands)
            self.assertTrue(plain_books.is_plan(5, plan))
            self.same(plan[0], sum(hands, ()))
            wanted = factorial(sum(lengths))
            for many in lengths:
                wanted //= factorial(many)
            self.same(many_weavings(FIVE, plan), wanted)
            for weaving in weavings(FIVE, plan):
                first = 0
                for many in lengths:
                    own = [at for at in weaving if first <= at < first + many]
                    self.assertEqual(own, list(range(first, first + many)))
                    first += many

    def test_any_values(self):
        good = ((("pour", 0), ("open", 1)), (), (("pour", 1),))
        for thing in [*changed(good), ((),) * 4, ((),) * 5, (), ((("pour", 2),),)]:
            if plain_books.are_hands(2, thing):
                self.same(plan_of_hands(STEP, thing)[0], sum(thing, ()))
            else:
                self.fails(BadPlan, {"thing": thing}, plan_of_hands, STEP, thing)

    def test_a_book_of_ten_names(self):
        self.same(plan_of_hands(book=(10, ()), hands=((("pour", 9),), (("open", 9),)))[1], ())


class Weavings(Case):
    def hold(self, book, plan):
        wanted = plain_books.weavings(plan)
        self.same(weavings(book, plan), tuple(wanted), (book, plan))
        self.same(many_weavings(book, plan), len(wanted))
        for weaving in wanted[:: len(wanted) // 20 + 1]:
            self.same(is_weaving(book, plan, weaving), True)
            self.same(woven(book, plan, weaving), plain_books.woven(plan, weaving))

    def test_small_plans(self):
        for book, plan in small_plans():
            self.hold(book, plan)

    def test_eight_deeds(self):
        for pairs, wanted in EIGHTS.items():
            plan = (eight_deeds(FIVE), pairs)
            self.same(many_weavings(FIVE, plan), wanted)
            if wanted < 2000:
                self.hold(FIVE, plan)

    def test_edges(self):
        self.same([weavings(ONE, EMPTY), many_weavings(ONE, EMPTY), woven(ONE, EMPTY, ())], [((),), 1, ()])
        self.same(is_weaving(ONE, EMPTY, ()), True)
        self.same(weavings(ONE, ((("pour", 0),) * 3, ())), tuple(sorted(weavings(ONE, ((("pour", 0),) * 3, ())))))

    def test_out_of_order(self):
        plan = (eight_deeds(FIVE), ((0, 7), (2, 1)))
        for weaving, wanted in [
            ((0, 2, 1, 3, 4, 5, 6, 7), True),
            ((0, 1, 2, 3, 4, 5, 6, 7), False),
            ((7, 2, 1, 3, 4, 5, 6, 0), False),
            ((2, 1, 3, 4, 5, 6, 0, 7), True),
            ((0, 2, 1, 3, 4, 5, 6), False),
            ((0, 2, 1, 3, 4, 5, 6, 7, 7), False),
            ((0, 2, 1, 3, 4, 5, 6, 6), False),
            ((0, 2, 1, 3, 4, 5, 6, 8), False),
            ((-1, 2, 1, 3, 4, 5, 6, 7), False),
        ]:
            self.same(is_weaving(FIVE, plan, weaving), wanted)
            if wanted:
                self.same(woven(FIVE, plan, weaving), tuple(plan[0][at] for at in weaving))
            else:
                self.fails(BadWeaving, {"thing": weaving}, woven, FIVE, plan, weaving)

    def test_any_values(self):
        for plan in [PLAN, EMPTY, (PLAN[0], ())]:
            for thing in changed((0, 1, 2)):
                wanted = plain_books.is_weaving(plan, thing)
                self.same(is_weaving(book=STEP, plan=plan, thing=thing), wanted)
                if not wanted:
                    self.fails(BadWeaving, {"thing": thing}, woven, STEP, plan, thing)


class Errors(Case):
    def test_in_order(self):
        for function, more in [
            (is_weaving, {"thing": []}),
            (weavings, {}),
            (many_weavings, {}),
            (woven, {"weaving": []}),
        ]:
            for thing in THINGS:
                if not plain.is_book(thing):
                    self.fails(BadBook, {"thing": thing}, function, plan=None, book=thing, **more)
            for thing in changed(PLAN, FEW):
                if not plain_books.is_plan(2, thing):
                    self.fails(BadPlan, {"thing": thing}, function, STEP, thing, *more.values())

    def test_books(self):
        for thing in THINGS:
            if not plain.is_book(thing):
                self.fails(BadBook, {"thing": thing}, is_plan, thing, None)
                self.fails(BadBook, {"thing": thing}, plan_of_hands, hands=None, book=thing)

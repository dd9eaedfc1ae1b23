"""[5.2] what can be last, [5.3] certain plans, [5.4] clashes and waits, [5.5] ends on a told hill."""

from itertools import combinations

from pourdrains.certain import are_waits, can_be_last, certain_holds, clashes, ends, fewest_waits, judge_certain
from pourdrains.errors import BadBook, BadHill, BadKind, BadPlan
from pourdrains.plans import plan_of_hands
from tests import plain, plain_books
from tests.same import Case
from tests.test_plans import EIGHTS, EMPTY, FIVE, ONE, PLAN, STEP, eight_deeds, small_plans
from tests.test_scripts import long_script
from tests.things import FEW, THINGS, changed

RING = (2, ((0, 1), (1, 0)))
FORK = (3, ((0, 2), (1, 2)))
CHAIN = (3, ((0, 1), (1, 2)))
FLAT = (5, ())


def more_plans():
    """Plans of books with ponds, forks and pairs that are not closed."""
    found = []
    for book in [RING, FORK, CHAIN, (3, ()), (2, ())]:
        for many in (2, 3, 4):
            for stride in range(1, 14):
                deeds = long_script(book, many, stride)
                every = [(i, j) for i, j in plain.pairs_of(many) if (i < j) == (stride % 3 > 0)]
                pairs = tuple(pair for at, pair in enumerate(every) if (at * stride + at) % 3 == 0)
                found.append((book, (deeds, pairs)))
    return found


PLANS = small_plans() + more_plans()


class Last(Case):
    def test_by_all_weavings(self):
        for book, plan in PLANS:
            for kind in plain_books.kinds_of(book):
                wanted = plain_books.can_be_last(plan, kind)
                self.same(can_be_last(book, plan, kind), wanted, (book, plan, kind))

    def test_behind_one_another_by_several_pairs(self):
        # The deed in the middle does not reach the kind, and still keeps the others in their order.
        plan = ((("pour", 0), ("pour", 1), ("open", 0)), ((0, 1), (1, 2)))
        self.same(can_be_last((2, ()), plan, ((0,), (0,))), (2,))
        self.same(can_be_last((2, ()), (plan[0], ((0, 1),)), ((0,), (0,))), (0, 2))

    def test_edges(self):
        self.same(can_be_last(ONE, EMPTY, ((0,), (0,))), ())
        self.same(can_be_last(ONE, ((("pour", 0),), ()), ((0,), ())), ())
        self.same(can_be_last(ONE, ((("pour", 0),) * 8, ()), ((), (0,))), tuple(range(8)))

    def test_errors_in_order(self):
        for thing in THINGS:
            if not plain.is_book(thing):
                self.fails(BadBook, {"thing": thing}, can_be_last, thing, None, None)
            if not plain_books.is_plan(2, thing):
                self.fails(BadPlan, {"thing": thing}, can_be_last, kind=None, plan=thing, book=STEP)
            if not plain.is_kind(STEP, thing):
                self.fails(BadKind, {"thing": thing}, can_be_last, STEP, PLAN, thing)


class Certain(Case):
    def hold(self, book, plan):
        wanted = plain_books.is_certain(book, plan)
        thing = judge_certain(book, plan)
        self.assertEqual(thing[0], "certain" if wanted else "parts", (book, plan))
        self.assertTrue(plain_books.certain_holds(book, plan, thing), (book, plan, thing))
        self.same(certain_holds(book, plan, thing), True)
        self.same(certain_holds(book, plan, ("certain",)), wanted)
        # [5.3]: for no kind both a pour and an open can be last; kinds between two names are enough.
        named = [kind for kind in plain_books.named_kinds(book) if kind[0] and kind[1]]
        for kinds in (plain_books.kinds_of(book), named):
            last = [{plan[0][at][0] for at in can_be_last(book, plan, kind)} for kind in kinds]
            self.assertEqual(all(len(sorts) < 2 for sorts in last), wanted)
        return wanted

    def test_small_plans(self):
        certain = [self.hold(book, plan) for book, plan in PLANS]
        self.assertGreater(certain.count(True), 50)
        self.assertGreater(certain.count(False), 50)

    def test_eight_deeds(self):
        for pairs, many in EIGHTS.items():
            if many < 200:
                for stride in (2, 3):
                    self.hold(FIVE, (eight_deeds(FIVE, stride), pairs))

    def test_hands_by_their_last_deeds(self):
        found = {True: 0, False: 0}
        for book in [ONE, STEP, CHAIN, FORK]:
            for lengths in [(2,), (2, 1), (0, 3), (2, 2), (1, 0, 2), (1, 1, 1, 1), (0, 0)]:
                for stride in range(1, 7):
                    hands = tuple(long_script(book, many, stride + at) for at, many in enumerate(lengths))
                    wanted = all(self.one_sort(hands, kind) for kind in plain_books.kinds_of(book))
                    self.assertEqual(self.hold(book, plan_of_hands(book, hands)), wanted, (book, hands))
                    found[wanted] += 1
        self.assertGreater(min(found.values()), 20)

    def one_sort(self, hands, kind):
        last = {plain_books.standing(script, kind) for script in hands} - {"kept"}
        return len(last) < 2

    def test_edges(self):
        self.same(judge_certain(ONE, EMPTY), ("certain",))
        self.same(judge_certain(STEP, ((("pour", 0), ("pour", 1)), ())), ("certain",))
        self.same(judge_certain(ONE, ((("pour", 0), ("open", 0)), ((1, 0),))), ("certain",))
        both = judge_certain(ONE, ((("pour", 0), ("open", 0)), ()))
        self.same(sorted(both[1:3]), [(0, 1), (1, 0)])
        self.same(both[3:], ((0,), (0,)))

    def test_changed_certificates(self):
        accepted = 0
        for book, plan in PLANS[::23] + [(STEP, PLAN)]:
            good = judge_certain(book, plan)
            for thing in changed(good, FEW):
                wanted = plain_books.certain_holds(book, plan, thing)
                self.same(certain_holds(book, plan, thing), wanted, (book, plan, thing))
                accepted += wanted
        self.assertGreater(accepted, 0)

    def test_all_weavings_and_kinds(self):
        for book, plan in [(STEP, PLAN), (ONE, ((("pour", 0), ("open", 0), ("pour", 0)), ((0, 1),)))]:
            rows = plain_books.weavings((plan[0], ()))
            lots = plain.lots(book[0])
            for things in [(one, other, low, high) for one in rows for other in rows for low in lots for high in lots]:
                wanted = plain_books.certain_holds(book, plan, ("parts",) + things)
                self.same(certain_holds(book, plan, ("parts",) + things), wanted)

    def test_any_values(self):
        for thing in THINGS + [("certain",), ("parts",), ("certain", ())]:
            wanted = plain_books.certain_holds(STEP, PLAN, thing)
            self.same(certain_holds(thing=thing, plan=PLAN, book=STEP), wanted)
            self.same(certain_holds(ONE, EMPTY, thing), plain_books.certain_holds(ONE, EMPTY, thing))


class Clashes(Case):
    def by_all_kinds(self, book, plan):
        found = set()
        for kind in plain_books.kinds_of(book):
            last = plain_books.can_be_last(plan, kind)
            found |= {(i, j) for i in last for j in last if plan[0][i][0] == "pour" and plan[0][j][0] == "open"}
        return tuple(sorted(found))

    def test_small_plans(self):
        some = 0
        for book, plan in PLANS:
            wanted = self.by_all_kinds(book, plan)
            self.same(clashes(book, plan), wanted, (book, plan))
            some += len(wanted)
        self.assertGreater(some, 100)

    def test_the_kind_between(self):
        for book, plan in PLANS[::5]:
            hill = plain.closing(book)
            for i, (sort, x) in enumerate(plan[0]):
                for j, (further, y) in enumerate(plan[0]):
                    if (sort, further) == ("pour", "open"):
                        low = tuple(a for a in range(hill[0]) if plain.leq(hill, a, y))
                        high = tuple(b for b in range(hill[0]) if plain.leq(hill, x, b))
                        last = plain_books.can_be_last(plan, (low, high))
                        self.assertEqual((i, j) in clashes(book, plan), i in last and j in last)

    def test_the_pour_stands_first(self):
        self.same(clashes(ONE, ((("open", 0), ("pour", 0)), ())), ((1, 0),))
        self.same(clashes(ONE, ((("pour", 0), ("open", 0)), ())), ((0, 1),))
        self.same(clashes((2, ()), ((("open", 1), ("pour", 0), ("open", 0)), ())), ((1, 0), (1, 2)))
        self.same(clashes(ONE, EMPTY), ())

    def test_eight_deeds(self):
        deeds = tuple((sort, name) for sort in ("open", "pour") for name in (0, 1, 2, 3))
        self.same(clashes(FLAT, (deeds, ())), tuple((i, j) for i in range(4, 8) for j in range(4)))


class Waits(Case):
    def test_are_waits(self):
        accepted = 0
        for book, plan in PLANS[::7]:
            every = plain.pairs_of(len(plan[0]))
            for many in range(min(3, len(every) + 1)):
                for thing in combinations(every, many):
                    wanted = plain_books.are_waits(book, plan, thing)
                    self.same(are_waits(book, plan, thing), wanted, (book, plan, thing))
                    accepted += wanted
        self.assertGreater(accepted, 100)

    def test_what_waits_are_not(self):
        plan = ((("pour", 0), ("open", 0), ("open", 0)), ((1, 2),))
        self.same(are_waits(ONE, plan, ((0, 1),)), True)
        self.same(are_waits(ONE, plan, ((0, 2),)), True)
        self.same(are_waits(ONE, plan, ((2, 0),)), True)
        # Not enough, a pair of the plan, round and round, not ascending, twice.
        self.same(are_waits(ONE, plan, ((1, 0),)), False)
        self.same(are_waits(ONE, plan, ()), False)
        self.same(are_waits(ONE, plan, ((0, 1), (1, 2))), False)
        self.same(are_waits(ONE, plan, ((0, 1), (2, 0))), False)
        self.same(are_waits(ONE, plan, ((0, 2), (0, 1))), False)
        self.same(are_waits(ONE, plan, ((0, 1), (0, 1))), False)
        self.same(are_waits(ONE, plan, ((0, 1), (0, 2))), True)

    def test_changed_waits(self):
        for plan in [PLAN, ((("pour", 0), ("open", 0), ("open", 1), ("pour", 1)), ((0, 3),)), EMPTY]:
            for thing in changed(fewest_waits(STEP, plan)):
                wanted = plain_books.are_waits(STEP, plan, thing)
                self.same(are_waits(book=STEP, plan=plan, thing=thing), wanted, (plan, thing))

    def test_fewest_of_small_plans(self):
        for book, plan in PLANS[::3]:
            found = fewest_waits(book, plan)
            self.assertTrue(plain_books.are_waits(book, plan, found), (book, plan, found))
            self.same(are_waits(book, plan, found), True)
            self.assertEqual(len(found), plain_books.fewest_waits(book, plan), (book, plan, found))

    def test_fewest_of_six_deeds(self):
        pours = tuple(("pour", name) for name in range(3))
        crossed = (pours + (("open", 3), ("open", 4), ("open", 0)), ())
        for book, plan, wanted in [
            (FLAT, crossed, 5),
            (ONE, ((("pour", 0),) * 3 + (("open", 0),) * 3, ()), 3),
            (ONE, ((("pour", 0),) * 5 + (("open", 0),), ()), 1),
            (ONE, ((("pour", 0),) * 6, ()), 0),
            (FLAT, (crossed[0], ((0, 1), (1, 2))), 3),
            (FLAT, (crossed[0], ((2, 3),)), 4),
            # Of two pours at one name, one has to wait.
            (FLAT, (pours[:2] + (("open", 3), ("open", 4)) + (("pour", 2),) * 2, ()), 4),
        ]:
            found = fewest_waits(book, plan)
            self.assertTrue(plain_books.are_waits(book, plan, found), (plan, found))
            self.assertEqual(len(found), wanted, (plan, found))

    def test_none_fewer_for_six_deeds(self):
        for book in [STEP, FIVE, CHAIN]:
            for stride in range(1, 7):
                plan = (long_script(book, 6, stride), ((0, 1), (2, 3), (4, 5))[: stride % 4])
                found = fewest_waits(book, plan)
                self.assertTrue(plain_books.are_waits(book, plan, found), (book, plan, found))
                every = [pair for pair in plain.pairs_of(6) if pair not in plan[1]]
                # No wait fewer: what are_waits says is held against the words above.
                fewer = combinations(every, min(2, len(found) - 1)) if found else []
                self.assertFalse(any(are_waits(book, plan, waits) for waits in fewer))


class Ends(Case):
    def hold(self, hill, plan):
        wanted = {plain.couple_of(hill, plain_books.woven(plan, row)) for row in plain_books.weavings(plan)}
        self.same(ends(hill, plan), tuple(sorted(wanted)), (hill, plan))

    def test_small_plans(self):
        for book, plan in PLANS:
            hill = plain.closing(book)
            self.hold(hill, plan)

    def test_other_hills(self):
        for hill in plain.hills(3)[::4]:
            for stride in range(1, 6):
                self.hold(hill, (long_script(hill, 5, stride), ((0, 1), (0, 4), (2, 3))[: stride % 4]))

    def test_eight_deeds(self):
        hill = plain.closing(FIVE)
        for pairs, many in EIGHTS.items():
            if many < 2000:
                self.hold(hill, (eight_deeds(hill), pairs))

    def test_names_of_one_pond(self):
        self.same(ends(RING, ((("pour", 0), ("open", 1)), ())), (((), (0, 1)), ((0, 1), ())))
        self.same(judge_certain(RING, ((("pour", 0), ("pour", 1)), ())), ("certain",))
        self.same(clashes(RING, ((("pour", 0), ("open", 1)), ())), ((0, 1),))

    def test_edges(self):
        self.same(ends(ONE, EMPTY), (((), ()),))
        self.same(ends((10, ()), ((("pour", 9),), ())), (((9,), ()),))

    def test_errors_in_order(self):
        for thing in THINGS + [CHAIN]:
            if not plain.is_hill(thing):
                self.fails(BadHill, {"thing": thing}, ends, plan=None, hill=thing)
        for thing in changed(PLAN):
            if not plain_books.is_plan(2, thing):
                self.fails(BadPlan, {"thing": thing}, ends, STEP, thing)


class Errors(Case):
    def test_in_order(self):
        for function, more in [
            (judge_certain, {}),
            (certain_holds, {"thing": []}),
            (clashes, {}),
            (are_waits, {"thing": []}),
            (fewest_waits, {}),
        ]:
            for thing in THINGS:
                if not plain.is_book(thing):
                    self.fails(BadBook, {"thing": thing}, function, plan=None, book=thing, **more)
            for thing in changed(PLAN, FEW):
                if not plain_books.is_plan(2, thing):
                    self.fails(BadPlan, {"thing": thing}, function, STEP, thing, *more.values())

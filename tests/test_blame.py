"""[12.1] who decides, [12.2] strikes, [12.3] places changed, [12.4] laid to a hand."""

from itertools import combinations, product

from pourdrains import blame
from pourdrains.errors import BadHill, BadPlan, BadScript, BadTerrace, BadWishes
from pourdrains.plans import plan_of_hands, weavings, woven
from tests import plain, plain_books, plain_maps
from tests.same import Case
from tests.test_hills import FLAT_10, LINE_10, POND_10
from tests.test_lots import SOME_4
from tests.test_scripts import long_script
from tests.things import THINGS, changed

ONE, STEP = (1, ()), (2, ((0, 1),))
FORK = (3, ((0, 2), (1, 2)))
SMALL = plain.hills(1) + plain.hills(2) + plain.hills(3)[::3]
TENS = [LINE_10, FLAT_10, POND_10]
SORTS = ("wet", "dry", "kept")


def all_wishes(many):
    """All wishes for so many terraces."""
    return [tuple(pair for pair in enumerate(told) if pair[1]) for told in product((None,) + SORTS, repeat=many)]


def some_scripts(hill):
    return [long_script(hill, many, stride) for many in (0, 1, 2, 5, 9) for stride in (1, 2, 3)]


class Deciders(Case):
    def test_short_scripts(self):
        for hill in SMALL:
            for script in plain.scripts_of(hill, 2):
                wanted = tuple(plain.last_reaching(hill, script, at) for at in range(hill[0]))
                self.same(blame.deciders(hill, script), wanted, (hill, script))
                self.same(blame.needless(hill, script), plain_maps.needless(hill, script), (hill, script))
                self.same(blame.loose_places(hill, script), plain_maps.loose_places(hill, script), (hill, script))

    def test_longer_scripts(self):
        for hill in SMALL + SOME_4 + TENS:
            for many, stride in [(7, 1), (7, 2), (12, 3), (60, 5)]:
                script = long_script(hill, many, stride)
                wanted = tuple(plain.last_reaching(hill, script, at) for at in range(hill[0]))
                self.same(blame.deciders(script=script, hill=hill), wanted)
                self.same(blame.needless(script=script, hill=hill), plain_maps.needless(hill, script))
                self.same(blame.loose_places(script=script, hill=hill), plain_maps.loose_places(hill, script))

    def test_what_decides_nothing_is_needless(self):
        for hill in SMALL + SOME_4:
            for stride in range(1, 6):
                script = long_script(hill, 8, stride)
                deciding = blame.deciders(hill, script)
                found = blame.needless(hill, script)
                self.assertTrue(all(at in found for at in range(8) if at not in deciding))

    def test_a_pour_that_decides_and_is_needless(self):
        script = (("pour", 0), ("pour", 0))
        self.same([blame.deciders(ONE, script), blame.needless(ONE, script)], [(1,), (0, 1)])

    def test_pours_and_opens_that_always_may_change_places(self):
        for hill in SMALL + SOME_4:
            for script in some_scripts(hill):
                found = blame.loose_places(hill, script)
                for at in range(len(script) - 1):
                    (sort, x), (further, y) = script[at], script[at + 1]
                    pour, drain = (x, y) if sort == "pour" else (y, x)
                    if sort == further or not plain.leq(hill, drain, pour):
                        self.assertIn(at, found)

    def test_edges(self):
        for hill in [ONE, POND_10]:
            self.same(blame.deciders(hill, ()), (None,) * hill[0])
            self.same([blame.needless(hill, ()), blame.loose_places(hill, ())], [(), ()])
        self.same(blame.loose_places(ONE, (("pour", 0),)), ())
        self.same(blame.deciders(POND_10, (("pour", 3), ("open", 7))), (1,) * 10)
        self.same(blame.loose_places(LINE_10, (("pour", 3), ("open", 4), ("open", 2), ("pour", 2))), (0, 1))


class Wishes(Case):
    def test_meets(self):
        for hill in SMALL:
            for script in plain.scripts_of(hill, 2)[:: 1 if hill[0] < 3 else 3]:
                for wishes in all_wishes(hill[0]):
                    wanted = plain_maps.meets(hill, script, wishes)
                    self.same(blame.meets(hill, script, wishes), wanted, (hill, script, wishes))

    def test_meets_on_ten_terraces(self):
        for hill in TENS:
            for many in (1, 5, 60):
                script = long_script(hill, many, 7)
                for told in SORTS:
                    for at in range(10):
                        wanted = plain_maps.meets(hill, script, ((at, told),))
                        self.same(blame.meets(wishes=((at, told),), hill=hill, script=script), wanted)

    def test_any_values(self):
        script = (("pour", 1), ("open", 0))
        for wishes in [((0, "dry"), (2, "kept")), (), ((1, "wet"),)]:
            for thing in [*changed(wishes), ((1, "wet"), (0, "dry")), ((0, "wet"), (0, "dry"))]:
                right = plain_maps.are_wishes(3, thing)
                for function in (blame.meets, blame.fewest_strikes):
                    if right:
                        function(FORK, script, thing)
                    else:
                        self.fails(BadWishes, {"thing": thing}, function, FORK, script, thing)
                if not right:
                    self.fails(BadWishes, {"thing": thing}, blame.are_strikes, FORK, script, thing, [])

    def test_errors_in_order(self):
        for function, more in [(blame.meets, 1), (blame.are_strikes, 2), (blame.fewest_strikes, 1)]:
            for thing in THINGS:
                if not plain.is_hill(thing):
                    self.fails(BadHill, {"thing": thing}, function, thing, None, *[None] * more)
                if not plain.is_script(3, thing):
                    self.fails(BadScript, {"thing": thing}, function, FORK, thing, *[None] * more)
        for function in (blame.deciders, blame.needless, blame.loose_places):
            for thing in THINGS:
                if not plain.is_hill(thing):
                    self.fails(BadHill, {"thing": thing}, function, script=None, hill=thing)
                if not plain.is_script(3, thing):
                    self.fails(BadScript, {"thing": thing}, function, script=thing, hill=FORK)


class Strikes(Case):
    def hold(self, hill, script, wishes):
        every = plain_maps.all_strikes(hill, script, wishes)
        found = blame.fewest_strikes(hill, script, wishes)
        if not every:
            self.same(found, None, (hill, script, wishes))
            return None
        self.assertEqual(len(found), len(every[0]), (hill, script, wishes, found))
        self.assertIn(found, every)
        self.same(blame.are_strikes(hill, script, wishes, found), True)
        return found

    def test_against_all_positions(self):
        nothing = 0
        for hill in SMALL + SOME_4[::3]:
            for many, stride in [(0, 1), (1, 1), (3, 2), (5, 1), (6, 3)]:
                script = long_script(hill, many, stride)
                for wishes in all_wishes(hill[0])[:: 1 if hill[0] < 3 else 5]:
                    nothing += self.hold(hill, script, wishes) is None
        self.assertGreater(nothing, 10)

    def test_nine_deeds_and_four_wishes(self):
        for hill in SOME_4[::4]:
            for stride in (1, 2):
                script = long_script(hill, 9, stride)
                for wishes in all_wishes(4)[255::-29]:
                    self.hold(hill, script, wishes)

    def test_a_single_wish(self):
        """There is just one smallest tuple of strikes: all opens behind the last pour, and likewise."""
        for hill in SMALL + SOME_4[::2]:
            for stride in range(1, 4):
                script = long_script(hill, 7, stride)
                for at in range(hill[0]):
                    for told in SORTS:
                        self.same(blame.fewest_strikes(hill, script, ((at, told),)), self.by_rule(hill, script, at, told))

    def by_rule(self, hill, script, terrace, told):
        reaching = [at for at, deed in enumerate(script) if terrace in plain.reach(hill, deed)]
        if told == "kept":
            return tuple(reaching)
        sort = "pour" if told == "wet" else "open"
        last = max([at for at in reaching if script[at][0] == sort], default=None)
        return None if last is None else tuple(at for at in reaching if at > last)

    def test_are_strikes(self):
        for hill, script in [(FORK, long_script(FORK, 4, 1)), (STEP, long_script(STEP, 3, 2)), (ONE, ())]:
            for wishes in all_wishes(hill[0])[::2]:
                every = plain_maps.all_strikes(hill, script, wishes)
                for many in range(len(script) + 2):
                    for strikes in combinations(range(-1, len(script) + 2), many):
                        self.same(blame.are_strikes(hill, script, wishes, strikes), strikes in every)

    def test_any_values(self):
        script = (("pour", 2), ("open", 0), ("open", 0), ("pour", 1))
        for wishes in [((0, "wet"),), ((1, "kept"),), ()]:
            for thing in [*changed((1, 2)), *changed((0, 3)), *changed(())]:
                wanted = plain_maps.are_strikes(FORK, script, wishes, thing)
                self.same(blame.are_strikes(thing=thing, wishes=wishes, script=script, hill=FORK), wanted, thing)

    def test_edges(self):
        self.same([blame.fewest_strikes(ONE, (), ()), blame.meets(ONE, (), ())], [(), True])
        self.same(blame.fewest_strikes(ONE, (), ((0, "wet"),)), None)
        self.same(blame.fewest_strikes(ONE, (("pour", 0),) * 9, ((0, "kept"),)), tuple(range(9)))
        # Wishes for two terraces that nothing meets, though each of them can be met.
        self.same(blame.fewest_strikes(STEP, (("pour", 1), ("open", 0)), ((0, "dry"), (1, "wet"))), None)
        self.same(blame.fewest_strikes(LINE_10, (("pour", 9), ("open", 4)), ((3, "wet"), (5, "dry"))), ())

    def test_longer_scripts(self):
        for hill in TENS:
            script = long_script(hill, 60, 7)
            found = blame.fewest_strikes(hill, script, ((0, "kept"), (9, "kept")))
            self.same(found, tuple(at for at, deed in enumerate(script) if {0, 9} & set(plain.reach(hill, deed))))


class Hands(Case):
    def by_weavings(self, hill, hands):
        """For each terrace the hands that decide it in the woven script of some weaving."""
        plan = plan_of_hands(hill, hands)
        owner = [number for number, script in enumerate(hands) for _ in script]
        found = [set() for _ in range(hill[0])]
        for weaving in weavings(hill, plan):
            script = woven(hill, plan, weaving)
            for at in range(hill[0]):
                last = plain.last_reaching(hill, script, at)
                if last is not None:
                    found[at].add(owner[weaving[last]])
        return [tuple(sorted(numbers)) for numbers in found]

    def test_against_all_weavings(self):
        for hill in SMALL + SOME_4[::3]:
            for stride, sizes in [(1, (3,)), (2, (2, 2)), (3, (1, 0, 3)), (1, (2, 1, 2)), (5, (1, 2, 1, 1)), (2, (0, 0))]:
                row = long_script(hill, sum(sizes), stride)
                hands = tuple(row[sum(sizes[:at]) : sum(sizes[: at + 1])] for at in range(len(sizes)))
                wanted = self.by_weavings(hill, hands)
                for at in range(hill[0]):
                    self.same(blame.laid_to(hill, hands, at), wanted[at], (hill, hands, at))

    def test_edges(self):
        self.same(blame.laid_to(ONE, ((),), 0), ())
        self.same(blame.laid_to(ONE, ((), (), (("open", 0),), ()), 0), (2,))
        self.same(blame.laid_to(POND_10, ((("pour", 0),), (("open", 5), ("pour", 1)), (), (("open", 9),)), 3), (0, 1, 3))
        self.same(blame.laid_to(LINE_10, ((("pour", 4),) * 8,), 5), ())
        self.same(blame.laid_to(terrace=4, hill=LINE_10, hands=((("pour", 4),) * 8,)), (0,))

    def test_errors_in_order(self):
        hands = ((("pour", 2), ("open", 0)), (("open", 1),))
        for thing in THINGS:
            if not plain.is_hill(thing):
                self.fails(BadHill, {"thing": thing}, blame.laid_to, thing, None, None)
            if not (plain.is_int(thing) and 0 <= thing < 3):
                self.fails(BadTerrace, {"thing": thing}, blame.laid_to, terrace=thing, hands=hands, hill=FORK)
        for thing in [*changed(hands), (), ((),) * 5]:
            if not plain_books.are_hands(3, thing):
                self.fails(BadPlan, {"thing": thing}, blame.laid_to, FORK, thing, None)

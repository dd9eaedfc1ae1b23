"""[0.3] the guarantee, over the whole program: just one kind of certificate is right, whoever made it."""

from fractions import Fraction
from itertools import product

from pourdrains import alike, certain, chances, fewest, heights, kindred, lost, lots, maps, notes, prices, programs
from pourdrains.kinds import world_of
from pourdrains.plans import woven
from tests import plain, plain_books, plain_heights, plain_maps, plain_runs
from tests.same import Case
from tests.test_chances import SMALL, cases, long_run, told
from tests.test_heights import height_script
from tests.test_scripts import long_script

ONE, STEP, FLAT = (1, ()), (2, ((0, 1),)), (2, ())
FORK, CHAIN = (3, ((0, 2), (1, 2))), (3, ((0, 1), (1, 2)))
BOOKS = [ONE, STEP, FLAT, (2, ((0, 1), (1, 0))), CHAIN]
HILLS = [ONE, STEP, FLAT, FORK, (3, ((0, 1), (1, 0), (2, 0), (2, 1)))]
FILL = (("look", 0, 2, 1), ("do", ("pour", 0), 0), ("end",))
PROGRAMS = [FILL, (("end",),), (("do", ("pour", 0), 0),), (("look", 0, 1, 0), ("end",)), (("do", ("open", 0), 1), ("end",))]
ENTRIES = [("do", ("pour", 0)), ("do", ("open", 1)), ("saw", 1, True), ("saw", 0, False), ("saw", 0, True)]


def lower_holds(hill, lot, thing):
    """Whether any value is a certificate of [1.3]."""
    if plain_maps.is_word(thing, "lower", 1):
        return plain.is_lower(hill, lot)
    if not plain_maps.is_word(thing, "missing", 3) or not all(plain_books.is_position(at, hill[0]) for at in thing[1:]):
        return False
    _, a, b = thing
    return plain.leq(hill, a, b) and b in lot and a not in lot


def some_prices(hill):
    return [plain.even(hill), (tuple(range(1, hill[0] + 1)), (3,) * hill[0])]


def scripts_for(book):
    return [long_script(book, many, stride) for many, stride in [(0, 1), (1, 1), (2, 3), (3, 1), (3, 2), (4, 5)]]


def script_pairs():
    return [(book, one, other) for book in BOOKS for one in scripts_for(book) for other in scripts_for(book)]


def plans_for():
    return [(book, plan) for book in BOOKS[:4] for plan in plain_books.plans_of(book, 3, 37)[::9]]


def made_arguments():
    found = []
    for hill in HILLS[:4]:
        for couple in plain.couples(hill)[::3]:
            for told_prices in some_prices(hill):
                found += [(hill, couple, told_prices, most) for most in (0, 1, 2, 5)]
    return found


def led_arguments():
    found = []
    for hill in HILLS:
        for water, other in product(plain.waters(hill)[::2], repeat=2):
            found += [(hill, water, other, plain.even(hill), most) for most in (0, 1, 2)]
    return found


def always_arguments():
    return [(book, one, wet, ()) for book in (ONE, STEP) for one in PROGRAMS for wet in [(), (0,)]]


def notes_of():
    return [row for many in range(4) for row in list(product(ENTRIES, repeat=many))[:: 1 + many * 4]]


def pair_arguments():
    every = [(book, row) for book in (FLAT, STEP) for row in notes_of() if plain_runs.fitting(book, row)]
    return [(book, row, a, b) for book, row in every for a, b in [(0, 1), (1, 0)]]


def height_arguments():
    found = []
    for book in (ONE, STEP, FLAT):
        for h in (1, 2):
            rows = [height_script(book, h, many, stride) for many, stride in [(0, 1), (2, 1), (3, 2), (3, 3)]]
            found += [(book, h, one, other) for one in rows for other in rows + [rows[2] + rows[2]]]
    return found


def map_arguments():
    return [(one, other, places) for one in HILLS[:4] for other in HILLS[:3] for places in plain_maps.maps(one, other)[::2]]


def hill_arguments():
    return [(one, other) for one in plain.hills(3)[::4] for other in plain.hills(3)[::3]]


# For each kind of doubt: arguments, what judges, what tells whether a certificate is right, and the plain words.
CLAIMS = {
    "lower": ([(hill, lot) for hill in HILLS for lot in plain.lots(hill[0])], lots.judge_lower, lots.lower_holds, lower_holds),
    "cheapest": (made_arguments(), prices.judge_cheapest, prices.cheapest_holds, plain.made_holds),
    "led": (led_arguments(), prices.judge_led, prices.led_holds, plain.led_holds),
    "alike": (script_pairs(), alike.judge_alike, alike.alike_holds, plain_books.alike_holds),
    "never wetter": (
        script_pairs(), alike.judge_never_wetter, alike.never_wetter_holds, plain_books.never_wetter_holds,
    ),
    "certain": (plans_for(), certain.judge_certain, certain.certain_holds, plain_books.certain_holds),
    "ends": (
        [(book, one) for book in (ONE, STEP) for one in PROGRAMS],
        programs.judge_ends, programs.ends_holds, plain_runs.ends_holds,
    ),
    "always": (always_arguments(), programs.judge_always, programs.always_holds, plain_runs.always_holds),
    "programs": (
        [(book, one, other) for book in (ONE, STEP) for one in PROGRAMS for other in PROGRAMS],
        programs.judge_programs, programs.programs_hold, plain_runs.programs_hold,
    ),
    "pair": (pair_arguments(), notes.judge_pair, notes.pair_holds, plain_runs.pair_holds),
    "lost": (
        [(book, row, most) for book in (STEP, FLAT) for row in notes_of() for most in (0, 1)],
        lost.judge_lost, lost.lost_holds, plain_runs.lost_holds,
    ),
    "heights": (height_arguments(), heights.judge_heights_alike, heights.heights_alike_holds, plain_heights.alike_holds),
    "single": (map_arguments(), maps.judge_single, maps.single_holds, plain_maps.single_holds),
    "hills": (hill_arguments(), kindred.judge_hills, kindred.hills_hold, plain_maps.hills_hold),
}  # fmt: skip


class Certificates(Case):
    def test_judged_ones_are_right(self):
        for name, (arguments, judge, holds, plainly) in CLAIMS.items():
            words = set()
            for things in arguments:
                thing = judge(*things)
                words.add(thing[0])
                self.same(holds(*things, thing), True, (name, things, thing))
                self.assertTrue(plainly(*things, thing), (name, things, thing))
            self.assertGreaterEqual(len(words), 2, (name, words))

    def pool(self):
        """Certificates of all kinds, made for all sorts of arguments."""
        found = {}
        for arguments, judge, _, _ in CLAIMS.values():
            for things in arguments:
                thing = judge(*things)
                found[repr(thing)] = thing
        return list(found.values())

    def test_just_one_kind_is_right_whatever_it_was_made_for(self):
        every = self.pool()
        accepted = 0
        for name, (arguments, judge, holds, plainly) in CLAIMS.items():
            for things in arguments[:: 1 + len(arguments) // 40]:
                word = judge(*things)[0]
                for thing in every[:: 1 + len(every) // 400] + every[-3:]:
                    right = plainly(*things, thing)
                    self.same(holds(*things, thing), right, (name, things, thing))
                    if right:
                        accepted += 1
                        self.assertEqual(thing[0], word, (name, things, thing))
        self.assertGreater(accepted, 300)


class Scripts(Case):
    def test_alike_or_parted_on_a_world(self):
        for book, one, other in script_pairs()[::2]:
            thing = alike.judge_alike(book, one, other)
            apart = [kind for kind in plain_books.kinds_of(book) if self.parted_at(book, one, other, kind)]
            self.assertEqual(thing[0] == "parts", apart != [])
            if apart:
                self.assertIn(thing[1:], apart)

    def parted_at(self, book, one, other, kind):
        """Whether two scripts leave the further terrace of the world of a kind unlike, from some water."""
        world = world_of(book, kind)
        return any(
            (book[0] in plain.run(world, water, one)) != (book[0] in plain.run(world, water, other))
            for water in plain.waters(world)
        )

    def test_plans(self):
        for book, plan in plans_for():
            thing = certain.judge_certain(book, plan)
            every = {plain_books.standings(book, plain_books.woven(plan, row)) for row in plain_books.weavings(plan)}
            self.assertEqual(thing[0] == "certain", len(every) == 1)
            if thing[0] == "parts":
                one, other = [woven(book, plan, weaving) for weaving in thing[1:3]]
                self.assertTrue(self.parted_at(book, one, other, thing[3:]))


class Fewest(Case):
    def test_no_fewer_deeds(self):
        for hill in HILLS:
            every, even = plain.least_of_couples(hill, plain.even(hill)), plain.even(hill)
            for couple in plain.couples(hill):
                many = fewest.fewest(hill, couple)
                self.same(many, every[couple])
                self.same(len(fewest.fewest_script(hill, couple)), many)
                self.assertEqual(prices.judge_cheapest(hill, couple, even, many)[0], "script")
                if many:
                    thing = prices.judge_cheapest(hill, couple, even, many - 1)
                    self.assertEqual(thing[0], "table")
                    self.assertTrue(plain.made_holds(hill, couple, even, many - 1, thing))

    def test_from_water_to_water(self):
        for hill in HILLS:
            even = plain.even(hill)
            for water in plain.waters(hill):
                every = plain.least_of_waters(hill, water, even)
                for other in plain.waters(hill):
                    price = prices.led_price(hill, water, other, even)
                    self.same(price, every[other])
                    self.assertEqual(prices.judge_led(hill, water, other, even, price)[0], "script")
                    if price:
                        self.assertEqual(prices.judge_led(hill, water, other, even, price - 1)[0], "table")


class Told(Case):
    def test_notes_tell_exactly(self):
        for book, row, a, b in pair_arguments():
            found = {(a, b) in ground[1] for ground, _ in plain_runs.fitting(book, row)}
            thing = notes.judge_pair(book, row, a, b)
            self.assertEqual(thing[:1] if len(found) > 1 else thing, ("open",) if len(found) > 1 else ("sure", *found))
            self.same((a, b) in notes.sure_pairs(book, row), found == {True})

    def test_programs_come_to_what_is_told(self):
        for book, program, wet, dry in always_arguments():
            runs = [plain_runs.walk(program, *beginning) for beginning in plain_runs.beginnings(book)]
            ended = [run[-1][1] for run in runs if not plain_runs.is_endless(run)]
            always = all(plain_runs.meets(wet, dry, water) for water in ended)
            self.assertEqual(programs.judge_always(book, program, wet, dry)[0], "closed" if always else "run")

    def test_shares_are_exact(self):
        for hill, weights in cases(SMALL, 3):
            found = chances.long_chances(hill, weights)
            wanted = {water: chance for water, chance in long_run(hill, weights).items() if chance}
            self.same(found, tuple((water, told(chance)) for water, chance in sorted(wanted.items())))
            self.assertEqual(sum(Fraction(*chance) for _, chance in found), 1)
            for at in range(hill[0]):
                wet = sum(chance for water, chance in wanted.items() if at in water)
                self.same(chances.long_share(hill, weights, at), told(wet + Fraction(0)))

"""[6.5] programs that are alike, upshots at narrow kinds."""

from itertools import product

from pourdrains.programs import judge_programs, programs_hold
from tests import plain, plain_runs
from tests.same import Case
from tests.test_programs import BOOKS, FILL, GROUND, ONE, in_order, program_of, programs_of, small_programs
from tests.things import FEW, THINGS, changed

STEP = (2, ((0, 1),))
POUR = (("do", ("pour", 0), 1), ("end",))
DRAIN = (("do", ("open", 0), 1), ("end",))
END = (("end",),)
ROUND = (("look", 0, 0, 0),)


def like(program):
    """Programs that do the same as a program, in another way."""
    again = tuple(row for row in program)
    first = program[0]
    found = [again, again + (("end",),)] if len(program) < 6 else [again]
    if first[0] == "do" and len(program) < 6:
        # The first deed is done twice.
        found.append((("do", first[1], len(program)), *program[1:], ("do", first[1], first[2])))
    names = (0, *range(len(program) - 1, 0, -1))
    return found + [in_order(program, names)]


def pairs_of_programs(book):
    found = []
    every = [program for program in programs_of(book, 5) if len(program) <= 6]
    for at, program in enumerate(every):
        found += [(program, other) for other in like(program)]
        found += [(program, other) for other in every[at % 5 :: 5]]
    return found


def left_on(hill, program):
    """What a program leaves from each water of a hill, None if it never ends."""
    found = []
    for water in plain.waters(hill):
        standings = plain_runs.walk(program, hill, water)
        found.append(None if plain_runs.is_endless(standings) else standings[-1][1])
    return found


class Pairs(Case):
    def hold(self, book, one, other):
        thing = judge_programs(book, one, other)
        self.assertTrue(plain_runs.programs_hold(book, one, other, thing), (book, one, other, thing))
        self.same(programs_hold(book, one, other, thing), True)
        return thing

    def test_programs(self):
        found = {"alike": 0, "unlike": 0}
        for book in BOOKS:
            every = pairs_of_programs(book)
            for one, other in every[:: 1 if book[0] < 3 else 7]:
                found[self.hold(book, one, other)[0]] += 1
        self.assertGreater(min(found.values()), 100)

    def test_at_all_beginnings(self):
        for book in BOOKS[:5]:
            for one, other in pairs_of_programs(book)[::5]:
                for ground, water in plain_runs.beginnings(book):
                    thing = ("unlike", ground, water)
                    wanted = plain_runs.programs_hold(book, one, other, thing)
                    self.same(programs_hold(book, one, other, thing), wanted, (book, one, other, thing))

    def test_on_hills_that_fit(self):
        found = {"alike": 0, "unlike": 0}
        for book in BOOKS[:5]:
            # One further terrace can be of each kind, so it shows all that there is to be seen.
            hills = [hill for many in (book[0], book[0] + 1) for hill in plain_runs.fitting_hills(book, many)]
            for one, other in pairs_of_programs(book)[:: 1 if book[0] == 1 else 9]:
                same = all(left_on(hill, one) == left_on(hill, other) for hill in hills)
                thing = judge_programs(book, one, other)
                self.assertEqual(thing[0], "alike" if same else "unlike", (book, one, other))
                found[thing[0]] += 1
        self.assertGreater(min(found.values()), 50)

    def test_with_two_further_terraces(self):
        hills = plain_runs.fitting_hills(ONE, 3)
        for one, other in pairs_of_programs(ONE)[::5] + list(product(small_programs(ONE, 2)[::7], repeat=2))[::5]:
            same = all(left_on(hill, one) == left_on(hill, other) for hill in hills)
            self.assertEqual(judge_programs(ONE, one, other)[0], "alike" if same else "unlike")

    def test_three_names_on_hills(self):
        book = (3, ((0, 1), (1, 2)))
        hills = plain_runs.fitting_hills(book, 4)
        for seed in range(1, 14, 2):
            one = program_of(book, 5, seed)
            for other in [*like(one), program_of(book, 5, seed + 2), one[:-1] + (("do", ("pour", 2), 4),)]:
                same = all(left_on(hill, one) == left_on(hill, other) for hill in hills)
                self.assertEqual(judge_programs(book, one, other)[0], "alike" if same else "unlike")

    def test_what_is_wet_already(self):
        # The deed changes nothing where the name was wet: all below it was wet, too.
        look = (("look", 0, 2, 1), ("do", ("pour", 0), 2), ("end",))
        self.same(judge_programs(ONE, look, POUR)[0], "alike")
        self.same(judge_programs(ONE, FILL, POUR)[0], "alike")
        dry = (("look", 0, 1, 2), ("do", ("open", 0), 2), ("end",))
        self.same(judge_programs(ONE, dry, DRAIN)[0], "alike")
        self.same(judge_programs(ONE, dry, END)[0], "unlike")
        # Below a name that is dry at first there can be water.
        self.same(judge_programs(ONE, (("look", 0, 1, 1), ("end",)), END)[0], "alike")
        self.same(programs_hold(ONE, look, END, ("unlike", GROUND, ())), True)
        self.same(programs_hold(ONE, look, END, ("unlike", GROUND, (0,))), False)

    def test_the_table_of_one_name(self):
        # Narrow kinds: of no names, under the name, over it, and its own.
        table = (
            (GROUND, (), ("kept", "wet", "dry", "wet")),
            (GROUND, (0,), ("kept", "wet", "kept", "wet")),
        )
        self.same(judge_programs(ONE, POUR, FILL)[1][0][2], ("kept", "wet", "dry", "wet"))
        self.same(judge_programs(ONE, POUR, FILL), ("alike", table))

    def test_rounds(self):
        self.same(judge_programs(ONE, ROUND, ROUND), ("alike", ((GROUND, (), None), (GROUND, (0,), None))))
        self.same(judge_programs(ONE, ROUND, (("do", ("pour", 0), 0),))[0], "alike")
        self.same(judge_programs(ONE, ROUND, END)[0], "unlike")
        self.same(judge_programs(ONE, END, ROUND)[0], "unlike")
        half = (("look", 0, 1, 0), ("end",))
        self.same(judge_programs(ONE, half, half), ("alike", ((GROUND, (), None), (GROUND, (0,), ("kept", "wet", "kept", "wet")))))
        self.same(judge_programs(ONE, half, END), ("unlike", GROUND, ()))

    def test_names_of_one_pond(self):
        # Only where the names are of one pond the two do the same.
        one, other = POUR, (("do", ("pour", 1), 1), ("end",))
        ring = (2, ((0, 1), (1, 0)))
        self.same(judge_programs(ring, one, other)[0], "alike")
        self.same(judge_programs((2, ()), one, other)[0], "unlike")


class ProgramsHold(Case):
    def test_changed_tables(self):
        for book, one, other in [
            (ONE, POUR, FILL),
            (ONE, ROUND, ROUND),
            (ONE, (("look", 0, 1, 0), ("end",)), (("look", 0, 1, 0), ("end",))),
        ]:
            good = judge_programs(book, one, other)
            self.assertEqual(good[0], "alike")
            others = [*FEW, "wet", "dry", "kept", "alike"]
            for thing in changed(good, others):
                wanted = plain_runs.programs_hold(book, one, other, thing)
                self.same(programs_hold(book, one, other, thing), wanted, thing)

    def test_rows_of_tables(self):
        for book in [STEP, (2, ((0, 1), (1, 0)))]:
            for one in [POUR, DRAIN, program_of(book, 4, 3)]:
                table = judge_programs(book, one, one)[1]
                self.same(programs_hold(book, one, one, ("alike", table)), True)
                for at, row in enumerate(table):
                    for other in [
                        table[:at] + table[at + 1 :],
                        table[:at] + (row, row) + table[at + 1 :],
                        table[at + 1 :] + table[: at + 1] if at + 1 < len(table) else table[::-1],
                        table[:at] + ((row[0], row[1], None),) + table[at + 1 :],
                        table[:at] + ((row[0], row[1], row[2][:-1]),) + table[at + 1 :],
                        table[:at] + ((row[0], row[1], row[2][::-1] + ("kept",)),) + table[at + 1 :],
                    ]:
                        self.same(programs_hold(book, one, one, ("alike", other)), False)

    def test_a_right_table_for_other_programs(self):
        good = judge_programs(STEP, POUR, POUR)
        for one, other in [(POUR, DRAIN), (DRAIN, DRAIN), (POUR, ROUND), (END, POUR)]:
            self.same(programs_hold(STEP, one, other, good), False)
        self.same(programs_hold(STEP, POUR, POUR + (("end",),), good), True)

    def test_changed_unlike(self):
        for book, one, other in [(ONE, POUR, END), (STEP, POUR, DRAIN), (STEP, ROUND, DRAIN)]:
            good = judge_programs(book, one, other)
            self.assertEqual(good[0], "unlike")
            for thing in changed(good):
                wanted = plain_runs.programs_hold(book, one, other, thing)
                self.same(programs_hold(book, one, other, thing), wanted, thing)

    def test_any_values(self):
        for thing in THINGS + [("alike", thing) for thing in THINGS] + [("unlike", thing, ()) for thing in THINGS]:
            for one, other in [(POUR, POUR), (POUR, DRAIN)]:
                wanted = plain_runs.programs_hold(ONE, one, other, thing)
                self.same(programs_hold(thing=thing, other=other, one=one, book=ONE), wanted)

"""[6.1] programs, [6.2] grounds and runs, [6.3] does it end, [6.4] always."""

from itertools import permutations, product

from pourdrains.errors import BadBook, BadHill, BadLot, BadProgram, BadWater
from pourdrains.programs import always_holds, ends_holds, grounds, is_program, judge_always, judge_ends, judge_programs
from pourdrains.programs import programs_hold, run_of
from tests import plain, plain_runs
from tests.same import Case
from tests.things import FEW, THINGS, changed

ONE = (1, ())
GROUND = (1, ())
FILL = (("look", 0, 2, 1), ("do", ("pour", 0), 0), ("end",))
BOOKS = [ONE, *plain.books(2), (3, ()), (3, ((0, 1),)), (3, ((0, 1), (1, 2))), (3, ((0, 1), (0, 2), (1, 0)))]
FOURS = [(4, ()), (4, ((0, 1),)), (10, ())]


def pick(seed, at, many):
    """An integer below many without any order in it, but the same each time."""
    return ((seed * 7919 + at * 104729 + 12345) * 2654435761 >> 11) % many


def program_of(book, rows, seed):
    """A program with rows of all sorts; each other one leads on only to rows behind."""
    found = []
    for at in range(rows - 1):
        first = at + 1 if seed % 2 else 0
        lead = [first + pick(seed, 5 * at + k, rows - first) for k in range(2)]
        name = pick(seed, 5 * at + 2, book[0])
        if pick(seed, 5 * at + 3, 5) < 3:
            sort = ("pour", "open")[pick(seed, 5 * at + 4, 2)]
            found.append(("do", (sort, name), lead[0]))
        else:
            found.append(("look", name, lead[0], lead[1]))
    return (*found, ("end",))


def all_rows(book, rows):
    found = [("end",)]
    for lead in range(rows):
        found += [("do", deed, lead) for deed in plain.deeds(book)]
        found += [("look", name, lead, dry) for name in range(book[0]) for dry in range(rows)]
    return found


def small_programs(book, rows):
    return list(product(all_rows(book, rows), repeat=rows))


def programs_of(book, many=12):
    found = small_programs(book, 1) + small_programs(book, 2)[:: 3 if book[0] == 1 else 29]
    for rows in (3, 4, 6, 8):
        found += [program_of(book, rows, seed) for seed in range(rows, rows + many)]
    return found


def in_order(program, names):
    """A program with its rows in another order: the row at i stands at names[i] then."""
    found = [None] * len(program)
    for at, row in enumerate(program):
        if row[0] == "do":
            row = ("do", row[1], names[row[2]])
        if row[0] == "look":
            row = ("look", row[1], names[row[2]], names[row[3]])
        found[names[at]] = row
    return tuple(found)


class Programs(Case):
    def test_any_values(self):
        good = (("look", 1, 3, 1), ("do", ("pour", 1), 2), ("do", ("open", 0), 0), ("end",))
        for thing in changed(good):
            self.same(is_program(book=(2, ((0, 1),)), thing=thing), plain_runs.is_program(2, thing), thing)

    def test_numbers_of_rows(self):
        for rows in range(10):
            self.same(is_program(ONE, (("end",),) * rows), 1 <= rows <= 8)
        for lead in range(-1, 10):
            self.same(is_program(ONE, (("do", ("pour", 0), lead),) * 8), 0 <= lead < 8)
            self.same(is_program(ONE, (("look", 0, lead, 0), ("end",))), 0 <= lead < 2)
            self.same(is_program(ONE, (("look", 0, 1, lead), ("end",))), 0 <= lead < 2)

    def test_all_programs_of_one_row(self):
        for book in BOOKS:
            for program in small_programs(book, 1):
                self.same(is_program(book, program), True)


class Grounds(Case):
    def test_all_books(self):
        for book in BOOKS + plain.books(3)[::3]:
            self.same(grounds(book), tuple(plain_runs.grounds(book)), book)

    def test_numbers(self):
        self.same([len(grounds((many, ()))) for many in (1, 2, 3)], [1, 4, 29])


class Runs(Case):
    def test_against_a_plain_walk(self):
        found = {"ends": 0, "round": 0}
        for book in BOOKS:
            for program in programs_of(book, 6):
                for ground, water in plain_runs.beginnings(book)[:: book[0]]:
                    wanted = plain_runs.run_of(program, ground, water)
                    self.same(run_of(book, program, ground, water), wanted, (program, ground, water))
                    found[wanted[0]] += 1
        self.assertGreater(min(found.values()), 500)

    def test_scripts_against_run(self):
        for book in BOOKS[1:]:
            for program in programs_of(book, 4)[-16:]:
                for ground, water in plain_runs.beginnings(book):
                    told = run_of(book, program, ground, water)
                    if told[0] == "ends":
                        self.same(plain.run(ground, water, told[1]), told[2])

    def test_edges(self):
        self.same(run_of(ONE, (("end",),), GROUND, (0,)), ("ends", (), (0,)))
        # A round without a deed.
        self.same(run_of(ONE, (("look", 0, 0, 0),), GROUND, ()), ("round", (), ()))
        self.same(run_of(ONE, (("look", 0, 0, 1), ("end",)), GROUND, ()), ("ends", (), ()))
        # The water of the first standing does not come again.
        turn = (("do", ("pour", 0), 1), ("do", ("open", 0), 0))
        self.same(run_of(ONE, turn, GROUND, ()), ("round", (), (("pour", 0), ("open", 0))))
        self.same(run_of(ONE, turn, GROUND, (0,)), ("round", (("pour", 0),), (("open", 0), ("pour", 0))))
        # Both ways of a look lead to the same row.
        same = (("look", 0, 1, 1), ("do", ("open", 0), 2), ("end",))
        for water in ((), (0,)):
            self.same(run_of(ONE, same, GROUND, water), ("ends", (("open", 0),), ()))

    def test_errors_in_order(self):
        book = (2, ((0, 1),))
        for thing in THINGS + FOURS:
            if not plain.is_book(thing) or thing[0] > 3:
                self.fails(BadBook, {"thing": thing}, run_of, thing, None, None, None)
            if not plain_runs.is_program(2, thing):
                self.fails(BadProgram, {"thing": thing}, run_of, water=[], ground=[], program=thing, book=book)
            if not plain_runs.is_ground(book, thing):
                self.fails(BadHill, {"thing": thing}, run_of, book, FILL, thing, [])
            if not plain_runs.is_water((2, ((0, 1),)), thing):
                self.fails(BadWater, {"thing": thing}, run_of, book, FILL, (2, ((0, 1),)), thing)
        for thing in [(2, ()), (2, ((1, 0),)), (3, ((0, 1),)), (1, ())]:
            self.fails(BadHill, {"thing": thing}, run_of, book, FILL, thing, ())


class Ends(Case):
    def hold(self, book, program):
        thing = judge_ends(book, program)
        self.assertTrue(plain_runs.ends_holds(book, program, thing), (book, program, thing))
        self.same(ends_holds(book, program, thing), True)
        return thing

    def test_programs(self):
        found = {"ends": 0, "round": 0}
        for book in BOOKS:
            for program in programs_of(book, 8):
                thing = self.hold(book, program)
                found[thing[0]] += 1
                for ground, water in plain_runs.beginnings(book)[::7]:
                    wanted = plain_runs.ends_holds(book, program, ("round", ground, water))
                    self.same(ends_holds(book, program, ("round", ground, water)), wanted)
        self.assertGreater(min(found.values()), 100)

    def test_edges(self):
        self.same(judge_ends(ONE, (("end",),)), ("ends", 1))
        self.same(judge_ends((3, ()), (("end",),) * 8), ("ends", 1))
        self.same(judge_ends(ONE, FILL), ("ends", 4))
        self.same(judge_ends(ONE, (("look", 0, 1, 0), ("end",))), ("round", GROUND, ()))
        line = tuple(("do", ("pour", at % 3), at + 1) for at in range(7)) + (("end",),)
        self.same(judge_ends((3, ()), line), ("ends", 8))

    def test_rows_that_come_again(self):
        # Each look sends the run back until its name is wet.
        book = (3, ())
        rows = (("look", 0, 2, 1), ("do", ("pour", 0), 0), ("look", 1, 4, 3), ("do", ("pour", 1), 0))
        program = rows + (("look", 2, 6, 5), ("do", ("pour", 2), 0), ("end",))
        self.same(self.hold(book, program)[0], "ends")
        self.same(judge_ends(book, program), ("ends", 2 + 3 + 4 + 4))

    def test_rows_in_another_order(self):
        for book in BOOKS[::2]:
            for seed in range(4):
                program = program_of(book, 4, seed)
                for names in permutations(range(1, 4)):
                    other = in_order(program, (0, *names))
                    self.same(judge_ends(book, other), judge_ends(book, program))
                    self.assertEqual(judge_programs(book, program, other)[0], "alike")

    def test_changed_certificates(self):
        accepted = 0
        for book in [ONE, (2, ((0, 1),)), (3, ((0, 1), (1, 2)))]:
            for program in [FILL, (("end",),), (("look", 0, 0, 1), ("end",)), program_of(book, 5, 2)]:
                for thing in changed(judge_ends(book, program)):
                    wanted = plain_runs.ends_holds(book, program, thing)
                    self.same(ends_holds(book, program, thing), wanted, (book, program, thing))
                    accepted += wanted
        self.assertGreater(accepted, 0)

    def test_numbers(self):
        for number in list(range(10)) + [True, "4", None, (4,)]:
            self.same(ends_holds(ONE, FILL, ("ends", number)), number == 4 and type(number) is int)
            self.same(ends_holds(ONE, (("end",),), ("ends", number)), number == 1 and type(number) is int)
            self.same(ends_holds(ONE, (("do", ("pour", 0), 0),), ("ends", number)), False)


class Always(Case):
    def hold(self, book, program, wet, dry):
        thing = judge_always(book, program, wet, dry)
        self.assertTrue(plain_runs.always_holds(book, program, wet, dry, thing), (book, program, wet, dry, thing))
        self.same(always_holds(book, program, wet, dry, thing), True)
        return thing

    def test_programs(self):
        found = {"closed": 0, "run": 0}
        for book in BOOKS:
            lots = plain.lots(book[0])
            for at, program in enumerate(programs_of(book, 5)):
                for wet, dry in list(product(lots, repeat=2))[at % 7 :: 7]:
                    thing = self.hold(book, program, wet, dry)
                    found[thing[0]] += 1
                    for ground, water in plain_runs.beginnings(book)[::11]:
                        wanted = plain_runs.always_holds(book, program, wet, dry, ("run", ground, water))
                        self.same(always_holds(book, program, wet, dry, ("run", ground, water)), wanted)
        self.assertGreater(min(found.values()), 100)

    def test_edges(self):
        # A program that never ends, and one of which no run that ends can do both.
        self.same(judge_always(ONE, (("do", ("pour", 0), 0),), (0,), (0,))[0], "closed")
        self.same(judge_always(ONE, FILL, (0,), (0,))[0], "run")
        self.same(judge_always(ONE, (("end",),), (), ()), ("closed", ((GROUND, 0, ()), (GROUND, 0, (0,)))))
        self.same(judge_always(ONE, (("end",),), (0,), ()), ("run", GROUND, ()))
        self.same(judge_always(ONE, (("end",),), (), (0,)), ("run", GROUND, (0,)))
        self.same(judge_always(ONE, FILL, (0,), ())[0], "closed")

    def test_more_than_the_least_table(self):
        # Further triples may stand there if the table is closed with them.
        program = (("do", ("pour", 0), 2), ("do", ("open", 0), 2), ("end",))
        least = ((GROUND, 0, ()), (GROUND, 0, (0,)), (GROUND, 2, (0,)))
        self.same(judge_always(ONE, program, (0,), ()), ("closed", least))
        for more in [((GROUND, 1, ()),), ((GROUND, 1, ()), (GROUND, 2, ())), ((GROUND, 2, ()),)]:
            table = ("closed", tuple(sorted(least + more)))
            self.same(always_holds(ONE, program, (), (), table), more[-1] == (GROUND, 2, ()))
            self.same(always_holds(ONE, program, (0,), (), table), False)

    def test_left_out_and_added_triples(self):
        for book in [(2, ((0, 1),)), (2, ())]:
            for seed in range(1, 9):
                program = program_of(book, 4, seed)
                thing = judge_always(book, program, (), ())
                table = thing[1]
                every = [(ground, row, water) for ground, water in plain_runs.beginnings(book) for row in range(-1, 6)]
                others = [tuple(row for row in table if row != triple) for triple in table]
                others += [tuple(sorted({*table, triple})) for triple in every]
                others += [table[::-1], table + table[-1:], table[:1] + table]
                for other in others:
                    for lots in [((), ()), ((0,), ()), ((), (1,))]:
                        wanted = plain_runs.always_holds(book, program, *lots, ("closed", other))
                        self.same(always_holds(book, program, *lots, ("closed", other)), wanted, (program, lots, other))

    def test_changed_certificates(self):
        for book in [ONE, (2, ((0, 1),))]:
            for program, wet, dry in [(FILL, (0,), ()), (FILL, (), (0,)), (FILL, (), ()), (program_of(book, 3, 1), (), ())]:
                for thing in changed(judge_always(book, program, wet, dry), FEW):
                    wanted = plain_runs.always_holds(book, program, wet, dry, thing)
                    self.same(always_holds(book, program, wet, dry, thing), wanted, (book, program, wet, dry, thing))

    def test_errors_in_order(self):
        book = (2, ((0, 1),))
        for function, more in [(judge_always, {}), (always_holds, {"thing": []})]:
            for thing in THINGS + FOURS:
                if not plain.is_book(thing) or thing[0] > 3:
                    self.fails(BadBook, {"thing": thing}, function, dry=1, wet=1, program=1, book=thing, **more)
                if not plain_runs.is_program(2, thing):
                    self.fails(BadProgram, {"thing": thing}, function, book, thing, None, None, *more.values())
                if not plain.is_lot(2, thing):
                    self.fails(BadLot, {"thing": thing}, function, book, FILL, thing, None, *more.values())
                    self.fails(BadLot, {"thing": thing}, function, book, FILL, (0, 1), thing, *more.values())


class Errors(Case):
    def test_in_order(self):
        for function, more in [(judge_ends, {}), (ends_holds, {"thing": []})]:
            for thing in THINGS + FOURS:
                if not plain.is_book(thing) or thing[0] > 3:
                    self.fails(BadBook, {"thing": thing}, function, program=None, book=thing, **more)
                if not plain_runs.is_program(2, thing):
                    self.fails(BadProgram, {"thing": thing}, function, (2, ()), thing, *more.values())
        for function, more in [(judge_programs, {}), (programs_hold, {"thing": []})]:
            for thing in THINGS + FOURS:
                if not plain.is_book(thing) or thing[0] > 3:
                    self.fails(BadBook, {"thing": thing}, function, other=None, one=None, book=thing, **more)
                if not plain_runs.is_program(2, thing):
                    self.fails(BadProgram, {"thing": thing}, function, (2, ()), thing, None, *more.values())
                    self.fails(BadProgram, {"thing": thing}, function, (2, ()), FILL, thing, *more.values())

    def test_books_of_four_names(self):
        for thing in FOURS:
            self.fails(BadBook, {"thing": thing}, grounds, thing)
            self.fails(BadBook, {"thing": thing}, is_program, thing, (("end",),))
        for thing in THINGS:
            if not plain.is_book(thing):
                self.fails(BadBook, {"thing": thing}, grounds, book=thing)
                self.fails(BadBook, {"thing": thing}, is_program, thing=None, book=thing)

"""[7.3] lost deeds."""

from itertools import product

from pourdrains.errors import BadBook, BadNotes, BadNumber
from pourdrains.lost import fewest_lost, judge_lost, lost_holds
from tests import plain, plain_runs
from tests.same import Case
from tests.test_notes import BOOKS, FIVES, FOURS, ODD, ONE, SEEN, STEP, TWO, mixed_notes, notes_of, some_notes
from tests.things import FEW, THINGS, changed

SMALL = [book for book in BOOKS if book[0] < 3]
TURNS = tuple(("saw", 0, at % 2 == 0) for at in range(12))
LOST = (("saw", 0, True), ("do", ("open", 1)), ("saw", 1, True), ("saw", 0, False))
# What costs more comes ahead of what costs less to the same water.
THREE = (
    ("saw", 0, True),
    ("saw", 0, False),
    ("saw", 1, False),
    ("do", ("open", 2)),
    ("saw", 1, False),
    ("do", ("open", 1)),
    ("saw", 0, False),
)


def all_puts(book, notes, most):
    """All puts of at most so many deeds."""
    single = [(at, deed) for at in range(len(notes) + 1) for deed in plain.deeds(book)]
    found = []
    for many in range(most + 1):
        found += [puts for puts in product(single, repeat=many) if plain_runs.are_puts(book, notes, puts)]
    return found


class Fewest(Case):
    def test_against_a_plain_search(self):
        found = set()
        for book in BOOKS:
            for notes in some_notes(book, 4):
                wanted = plain_runs.fewest_lost(book, notes)
                self.same(fewest_lost(book, notes), wanted, (book, notes))
                found.add(wanted)
        self.assertGreater(len(found), 3)

    def test_against_all_puts(self):
        for book in SMALL:
            for seed in range(6):
                notes = mixed_notes(book, 3, seed)
                fewest = fewest_lost(book, notes)
                every = plain_runs.beginnings(book)
                for puts in all_puts(book, notes, min(2, fewest)):
                    if any(plain_runs.fits_with_puts(notes, beginning, puts) for beginning in every):
                        self.assertGreaterEqual(len(puts), fewest)

    def test_edges(self):
        self.same(fewest_lost(ONE, ()), 0)
        self.same(fewest_lost(ONE, ODD), 1)
        self.same(fewest_lost(ONE, TURNS), 11)
        self.same(fewest_lost(TWO, SEEN), 0)
        self.same(fewest_lost((4, ()), ODD), 1)
        # One pour at the higher name makes both wet.
        rows = (("saw", 0, False), ("saw", 1, False), ("saw", 0, True), ("saw", 1, True))
        self.same([fewest_lost(STEP, rows), fewest_lost(TWO, rows)], [1, 1])

    def test_nothing_is_lost_where_something_fits(self):
        for book in BOOKS + FOURS:
            for seed in range(3):
                self.same(fewest_lost(book, notes_of(book, 12, seed)), 0)


class Judged(Case):
    def hold(self, book, notes, most):
        thing = judge_lost(book, notes, most)
        enough = plain_runs.fewest_lost(book, notes) <= most
        self.assertEqual(thing[0], "put" if enough else "table", (book, notes, most))
        self.assertTrue(plain_runs.lost_holds(book, notes, most, thing), (book, notes, most, thing))
        self.same(lost_holds(book, notes, most, thing), True)
        return thing

    def test_all_small_books(self):
        found = {"put": 0, "table": 0}
        for book in SMALL:
            for notes in some_notes(book, 3):
                fewest = fewest_lost(book, notes)
                for most in sorted({0, max(0, fewest - 1), fewest, fewest + 1, 12}):
                    found[self.hold(book, notes, most)[0]] += 1
        self.assertGreater(min(found.values()), 50)

    def test_three_and_four_names(self):
        for book in [(3, ()), (3, ((0, 1), (1, 2)))]:
            for notes in [ODD, THREE, mixed_notes(book, 6, 1)]:
                for most in (0, 1):
                    self.hold(book, notes, most)
        self.assertEqual(judge_lost((4, ()), ODD, 1)[0], "put")
        self.assertEqual(judge_lost((4, ()), ODD, 0)[0], "table")

    def test_edges(self):
        self.same(judge_lost(ONE, (), 0)[::2], ("put", ()))
        self.same(judge_lost(ONE, ODD, 0), ("table", (
            (0, ONE, (), 0),
            (0, ONE, (0,), 0),
            (1, ONE, (), 1),
            (1, ONE, (0,), 0),
            (2, ONE, (), 1),
            (2, ONE, (0,), 2),
        )))  # fmt: skip
        self.same(self.hold(ONE, TURNS, 12)[0], "put")
        self.same(self.hold(ONE, TURNS, 11)[0], "put")
        self.same(self.hold(ONE, TURNS, 10)[0], "table")


class LostHolds(Case):
    def hold(self, book, notes, most, thing):
        wanted = plain_runs.lost_holds(book, notes, most, thing)
        self.same(lost_holds(book, notes, most, thing), wanted, (book, notes, most, thing))
        return wanted

    def test_all_puts(self):
        accepted = 0
        for book, notes in [(ONE, ODD), (STEP, LOST[1:]), (TWO, ODD)]:
            for beginning in plain_runs.beginnings(book):
                for puts in all_puts(book, notes, 2)[:: 1 if book == ONE else 5]:
                    for most in (0, 1, 2):
                        accepted += self.hold(book, notes, most, ("put", beginning, puts))
        self.assertGreater(accepted, 20)

    def test_puts_in_order(self):
        # A pour and then an open ahead of the same entry, and the other way round.
        notes = (("saw", 0, True), ("saw", 0, False))
        pour, drain = (1, ("pour", 0)), (1, ("open", 0))
        for puts, wanted in [
            ((pour, drain), True),
            ((drain, pour), False),
            ((drain, (2, ("pour", 0))), True),
            (((2, ("pour", 0)), drain), False),
            ((drain, (3, ("pour", 0))), False),
            (((-1, ("pour", 0)), drain), False),
            (((0, ("pour", 0)), drain), True),
        ]:
            self.same(lost_holds(ONE, notes, 2, ("put", (ONE, (0,)), puts)), wanted)
            self.same(lost_holds(ONE, notes, 1, ("put", (ONE, (0,)), puts)), False)

    def test_changed_puts(self):
        for book, notes in [(ONE, ODD), (STEP, LOST)]:
            good = judge_lost(book, notes, 3)
            self.assertEqual(good[0], "put")
            for thing in changed(good):
                self.hold(book, notes, 3, thing)

    def test_changed_tables(self):
        accepted = 0
        for book, notes in [(ONE, ODD), (ONE, (("saw", 0, True), ("do", ("open", 0)), ("saw", 0, True)))]:
            good = judge_lost(book, notes, 0)
            self.assertEqual(good[0], "table")
            for thing in changed(good, FEW):
                accepted += self.hold(book, notes, 0, thing)
        # A number that is less than it has to be can still be right.
        self.assertGreater(accepted, 0)

    def test_rows_of_tables(self):
        for book in [STEP, (2, ((0, 1), (1, 0))), TWO]:
            notes = LOST + (("saw", 1, True),)
            table = judge_lost(book, notes, 0)[1]
            for at, row in enumerate(table):
                for other in [
                    table[:at] + table[at + 1 :],
                    table[: at + 1] + table[at:],
                    table[:at] + (row[:3] + (row[3] + 1,),) + table[at + 1 :],
                    table[:at] + (row[:3] + (row[3] - 1,),) + table[at + 1 :],
                    table[: at + 1] + (row[:3] + (row[3] + 1,),) + table[at + 1 :],
                    table[:at] + (row[:3] + (row[3] - 1,),) + table[at:],
                    table[at:] + table[:at] if at else table[::-1],
                ]:
                    for most in (0, 1):
                        self.hold(book, notes, most, ("table", other))

    def test_positions_beyond_the_entries(self):
        table = judge_lost(ONE, ODD, 0)[1]
        every = [(ONE, ()), (ONE, (0,))]
        for position in (-1, 3):
            for numbers in [(0, 0), (1, 1), (2, 2)]:
                more = tuple((position, *row, number) for row, number in zip(every, numbers))
                for rows in (more, more[:1]):
                    self.assertFalse(self.hold(ONE, ODD, 0, ("table", tuple(sorted(table + rows)))))

    def test_numbers_below_0(self):
        table = judge_lost(ONE, TURNS, 0)[1]
        for less, wanted in [(0, True), (1, False), (2, False)]:
            lower = tuple(row[:3] + (row[3] - less * (row[0] > 0),) for row in table)
            self.same(self.hold(ONE, TURNS, 0, ("table", lower)), wanted)
            # All is as it has to be but for the sign.
            self.assertGreater(min(row[3] for row in lower if row[0] == 12), 0)

    def test_tables_and_most(self):
        table = judge_lost(ONE, TURNS, 10)
        for most in range(14):
            self.same(lost_holds(ONE, TURNS, most, table), most <= 10)

    def test_any_values(self):
        rows = THINGS + [("table", thing) for thing in THINGS] + [("put", (ONE, ()), thing) for thing in THINGS]
        for thing in rows + [("put", thing, ()) for thing in THINGS]:
            wanted = plain_runs.lost_holds(ONE, (), 0, thing)
            self.same(lost_holds(book=ONE, notes=(), most=0, thing=thing), wanted)


class Errors(Case):
    def test_in_order(self):
        for function, more in [
            (fewest_lost, {}),
            (judge_lost, {"most": -1}),
            (lost_holds, {"most": -1, "thing": []}),
        ]:
            for thing in THINGS + FIVES:
                if not plain.is_book(thing) or thing[0] > 4:
                    self.fails(BadBook, {"thing": thing}, function, notes=None, book=thing, **more)
                if not plain_runs.is_notes(2, thing):
                    self.fails(BadNotes, {"thing": thing}, function, STEP, thing, *more.values())
                if more and not (plain.is_int(thing) and thing >= 0):
                    more = {**more, "most": thing}
                    self.fails(BadNumber, {"thing": thing}, function, notes=(), book=STEP, **more)

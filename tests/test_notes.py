"""[7.1] notes and what fits, [7.2] what is sure, [7.4] the look that tells most."""

from pourdrains.errors import BadBook, BadNotes, BadTerrace, NoneFits
from pourdrains.notes import best_look, fitting, is_notes, judge_pair, many_fitting, pair_holds, sure_pairs, water_now
from tests import plain, plain_runs
from tests.same import Case
from tests.test_programs import pick
from tests.things import FEW, THINGS, changed

ONE = (1, ())
TWO = (2, ())
STEP = (2, ((0, 1),))
SEEN = (("do", ("open", 1)), ("do", ("pour", 0)), ("saw", 1, True))
ODD = (("saw", 0, True), ("saw", 0, False))
BOOKS = [ONE, *plain.books(2), (3, ()), (3, ((0, 1), (1, 2))), (3, ((0, 2), (2, 0)))]
FOURS = [(4, ()), (4, ((0, 1), (2, 3)))]
FIVES = [(5, ()), (10, ())]


def notes_of(book, many, seed):
    """Notes without any order in them; what is seen is so on some ground of the book."""
    every = plain_runs.beginnings(book)
    ground, water = every[pick(seed, 77, len(every))]
    found = []
    for at in range(many):
        name = pick(seed, 3 * at, book[0])
        if pick(seed, 3 * at + 1, 2):
            found.append(("do", (("pour", "open")[pick(seed, 3 * at + 2, 2)], name)))
            water = plain.run(ground, water, found[-1][1:])
        else:
            found.append(("saw", name, name in water))
    return tuple(found)


def mixed_notes(book, many, seed):
    """Notes of which it is open whether something fits."""
    found = list(notes_of(book, many, seed))
    for at, entry in enumerate(found):
        if entry[0] == "saw" and pick(seed, 100 + at, 3) == 0:
            found[at] = ("saw", entry[1], not entry[2])
    return tuple(found)


def some_notes(book, seeds=5):
    found = [()]
    for many in (1, 2, 3, 5, 8, 12):
        found += [notes_of(book, many, seed) for seed in range(seeds)]
        found += [mixed_notes(book, many, seed) for seed in range(seeds)]
    return found


class Notes(Case):
    def test_any_values(self):
        for good in [SEEN, ODD]:
            for thing in changed(good):
                self.same(is_notes(book=STEP, thing=thing), plain_runs.is_notes(2, thing), thing)

    def test_numbers_of_entries(self):
        for many in range(15):
            self.same(is_notes(ONE, (("saw", 0, True),) * many), many <= 12)
            self.same(is_notes((4, ()), (("do", ("pour", 3)),) * many), many <= 12)

    def test_bools(self):
        for thing in THINGS:
            self.same(is_notes(ONE, (("saw", 0, thing),)), thing is True or thing is False)


class Fitting(Case):
    def hold(self, book, notes):
        wanted = tuple(plain_runs.fitting(book, notes))
        self.same(fitting(book, notes), wanted, (book, notes))
        self.same(many_fitting(book, notes), len(wanted))
        return len(wanted)

    def test_all_books(self):
        numbers = [self.hold(book, notes) for book in BOOKS for notes in some_notes(book)]
        self.assertGreater(numbers.count(0), 50)
        self.assertGreater(len(numbers) - numbers.count(0), 200)

    def test_four_names(self):
        for book in FOURS:
            for notes in some_notes(book, 1):
                self.same(many_fitting(book, notes), len(plain_runs.fitting(book, notes)))
        self.same(many_fitting((4, ()), ()), 2338)

    def test_edges(self):
        self.same([many_fitting((many, ()), ()) for many in (1, 2, 3)], [2, 12, 130])
        self.same(fitting(ONE, ODD), ())
        self.same(fitting(ONE, (("saw", 0, True),)), ((ONE, (0,)),))
        self.same(fitting(ONE, (("do", ("open", 0)), ("saw", 0, True))), ())


class Pairs(Case):
    def hold(self, book, notes):
        fit = plain_runs.fitting(book, notes)
        for a, b in plain.pairs_of(book[0]):
            if not fit:
                self.fails(NoneFits, {}, judge_pair, book, notes, a, b)
                self.fails(NoneFits, {}, pair_holds, book, notes, a, b, ("sure", True))
                continue
            told = {(a, b) in ground[1] for ground, _ in fit}
            thing = judge_pair(book, notes, a, b)
            self.assertEqual(thing[0], "open" if len(told) == 2 else "sure")
            self.assertTrue(plain_runs.pair_holds(book, notes, a, b, thing), (book, notes, a, b, thing))
            self.same(pair_holds(book, notes, a, b, thing), True)
            for answer in (True, False):
                self.same(pair_holds(book, notes, a, b, ("sure", answer)), told == {answer})
        return fit

    def test_all_books(self):
        for book in BOOKS[1:]:
            for notes in some_notes(book, 4):
                fit = self.hold(book, notes)
                if fit:
                    below = [set(ground[1]) for ground, _ in fit]
                    self.same(sure_pairs(book, notes), tuple(sorted(set.intersection(*below))))
                else:
                    self.fails(NoneFits, {}, sure_pairs, book, notes)

    def test_four_names(self):
        for book in FOURS:
            for notes in [(), notes_of(book, 12, 3)]:
                fit = plain_runs.fitting(book, notes)
                below = [set(ground[1]) for ground, _ in fit]
                self.same(sure_pairs(book, notes), tuple(sorted(set.intersection(*below))))
                for a, b in [(0, 1), (3, 2), (1, 3)]:
                    told = {(a, b) in pairs for pairs in below}
                    thing = judge_pair(book, notes, a, b)
                    self.assertEqual(thing[0], "open" if len(told) == 2 else "sure")
                    self.same(pair_holds(book, notes, a, b, thing), True)

    def test_sure_open_and_sure_not(self):
        self.same(judge_pair(TWO, SEEN, 1, 0), ("sure", True))
        self.same(judge_pair(TWO, SEEN, 0, 1)[0], "open")
        # What is dry behind a pour does not lie below it.
        unlike = (("do", ("open", 1)), ("do", ("pour", 0)), ("saw", 1, False))
        self.same(judge_pair(TWO, unlike, 1, 0), ("sure", False))
        self.same(judge_pair(STEP, (), 0, 1), ("sure", True))
        self.same(sure_pairs(TWO, unlike), ())
        self.same(sure_pairs((2, ((0, 1), (1, 0))), ()), ((0, 1), (1, 0)))
        self.same(sure_pairs(ONE, ()), ())

    def test_changed_certificates(self):
        for book, notes, a, b in [(TWO, SEEN, 0, 1), (TWO, SEEN, 1, 0), (STEP, (), 1, 0), (STEP, (), 0, 1)]:
            for thing in changed(judge_pair(book, notes, a, b), FEW + [TWO, STEP]):
                wanted = plain_runs.pair_holds(book, notes, a, b, thing)
                self.same(pair_holds(book, notes, a, b, thing), wanted, (notes, thing))

    def test_all_pairs_of_beginnings(self):
        every = plain_runs.beginnings(TWO)
        for notes in [(), SEEN, notes_of(TWO, 5, 1)]:
            for one in every:
                for other in every:
                    wanted = plain_runs.pair_holds(TWO, notes, 1, 0, ("open", one, other))
                    self.same(pair_holds(TWO, notes, 1, 0, ("open", one, other)), wanted)

    def test_any_values(self):
        rows = THINGS + [("sure", thing) for thing in THINGS] + [("open", thing, (TWO, ())) for thing in THINGS]
        for thing in rows:
            for a, b in [(0, 1), (1, 0)]:
                wanted = plain_runs.pair_holds(TWO, SEEN, a, b, thing)
                self.same(pair_holds(book=TWO, notes=SEEN, a=a, b=b, thing=thing), wanted)


class Looks(Case):
    def test_all_books(self):
        for book in BOOKS + FOURS:
            for notes in some_notes(book, 3 if book[0] < 4 else 1):
                ends = [plain_runs.water_behind(notes, one) for one in plain_runs.fitting(book, notes)]
                if not ends:
                    self.fails(NoneFits, {}, water_now, book, notes)
                    self.fails(NoneFits, {}, best_look, book, notes)
                    continue
                counts = [sum(name in water for water in ends) for name in range(book[0])]
                words = {0: "dry", len(ends): "wet"}
                self.same(water_now(book, notes), tuple(words.get(wet, "open") for wet in counts))
                worse = [max(wet, len(ends) - wet) for wet in counts]
                name = worse.index(min(worse))
                self.same(best_look(book, notes), (name, counts[name], len(ends) - counts[name]))

    def test_edges(self):
        self.same(best_look(ONE, ()), (0, 1, 1))
        self.same(best_look(TWO, ()), (0, 6, 6))
        # Of the name that was seen nothing more is told.
        self.same(best_look(TWO, (("saw", 0, True),))[0], 1)
        self.same(water_now(TWO, ()), ("open", "open"))
        self.same(water_now(STEP, (("saw", 1, True),)), ("wet", "wet"))
        self.same(water_now(STEP, (("do", ("open", 0)),)), ("dry", "dry"))


class Errors(Case):
    def test_in_order(self):
        for function in (fitting, many_fitting, sure_pairs, water_now, best_look):
            for thing in THINGS + FIVES:
                if not plain.is_book(thing) or thing[0] > 4:
                    self.fails(BadBook, {"thing": thing}, function, notes=None, book=thing)
                if not plain_runs.is_notes(2, thing):
                    self.fails(BadNotes, {"thing": thing}, function, STEP, thing)
            self.fails(BadNotes, {"thing": (("saw", 0, 1),)}, function, STEP, (("saw", 0, 1),))
        for thing in THINGS + FIVES:
            if not plain.is_book(thing) or thing[0] > 4:
                self.fails(BadBook, {"thing": thing}, is_notes, thing=None, book=thing)

    def test_of_pairs_in_order(self):
        for function, more in [(judge_pair, {}), (pair_holds, {"thing": []})]:
            for thing in THINGS + FIVES:
                if not plain.is_book(thing) or thing[0] > 4:
                    self.fails(BadBook, {"thing": thing}, function, b=9, a=9, notes=9, book=thing, **more)
                if not plain_runs.is_notes(2, thing):
                    self.fails(BadNotes, {"thing": thing}, function, TWO, thing, None, None, *more.values())
                if not (plain.is_int(thing) and 0 <= thing < 2):
                    # No beginning fits either: this is told last.
                    self.fails(BadTerrace, {"thing": thing}, function, TWO, ODD, thing, [], *more.values())
                    self.fails(BadTerrace, {"thing": thing}, function, TWO, ODD, 1, thing, *more.values())
            for name in (0, 1):
                self.fails(BadTerrace, {"thing": name}, function, TWO, ODD, name, name, *more.values())
            self.fails(NoneFits, {}, function, TWO, ODD, 0, 1, *more.values())

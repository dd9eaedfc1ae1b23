"""[9.4] height scripts that are alike on all hills."""

from pourdrains.alike import judge_alike
from pourdrains.errors import BadBook, BadNumber, BadScript
from pourdrains.heights import heights_alike_holds, judge_heights_alike, run_heights, script_at
from tests import plain, plain_heights
from tests.same import Case
from tests.test_heights import STEP, height_script
from tests.test_steps import BOOKS_2, OPEN_CHAIN, RING
from tests.things import FEW, THINGS, changed

ONE = (1, ())
FIVES = [
    (5, ()),
    (5, ((0, 1), (1, 2), (2, 3), (3, 4))),
    (5, ((0, 2), (1, 2), (3, 4), (4, 3))),
    (5, ((2, 0), (2, 1), (3, 1), (4, 2))),
]
HILLS = {many: plain.hills(many) for many in (1, 2, 3)}
TURN = (("pour", 0, 2), ("open", 0, 0), ("pour", 0, 1), ("open", 0, 1))
TURNED = (TURN[1], TURN[0], TURN[2], TURN[3])


def turned(script):
    """Scripts that are often alike to a script: a deed twice, neighbours exchanged, a deed less."""
    found = [script, script + script[-1:], script[:1] + script]
    found += [script[:at] + (script[at + 1], script[at]) + script[at + 2 :] for at in range(len(script) - 1)]
    return found + [script[:at] + script[at + 1 :] for at in range(len(script))]


def cases():
    for book in BOOKS_2 + [OPEN_CHAIN, RING]:
        for h in (1, 2, 3):
            for stride in range(1, 4):
                script = height_script(book, h, 5, stride)
                for other in turned(script):
                    yield book, h, script, other


class Alike(Case):
    def hold(self, book, h, one, other):
        wanted = plain_heights.alike(book, h, one, other)
        thing = judge_heights_alike(book, h, one, other)
        self.assertEqual(thing[0], "levels" if wanted else "parts", (book, h, one, other))
        self.assertTrue(plain_heights.alike_holds(book, h, one, other, thing), (book, h, one, other, thing))
        self.same(heights_alike_holds(book, h, one, other, thing), True)
        return thing

    def test_against_the_levels(self):
        found = {"levels": 0, "parts": 0}
        for book, h, one, other in cases():
            found[self.hold(book, h, one, other)[0]] += 1
        self.assertGreater(min(found.values()), 50)

    def test_on_hills_that_fit(self):
        """Alike scripts leave the same on small hills; others part on one with at most one further terrace."""
        for book in BOOKS_2:
            fit = [hill for size in (book[0], book[0] + 1) for hill in HILLS[size] if set(book[1]) <= set(hill[1])]
            for h in (1, 2):
                rows = {hill: plain_heights.all_heights(hill, h) for hill in fit}
                script = height_script(book, h, 4, 3)
                for other in turned(script):
                    apart = self.apart(h, rows, script, other)
                    self.assertEqual(judge_heights_alike(book, h, script, other)[0] == "parts", apart)

    def apart(self, h, rows, one, other):
        for hill, every in rows.items():
            for row in every:
                if run_heights(hill, h, row, one) != run_heights(hill, h, row, other):
                    return True
        return False

    def test_where_they_part(self):
        """On the world of the kind the further terrace comes to unlike heights at the level."""
        for book, h, one, other in list(cases())[::3]:
            thing = judge_heights_alike(book, h, one, other)
            if thing[0] == "parts":
                _, level, below, above = thing
                pairs = [(name, book[0]) for name in below] + [(book[0], name) for name in above]
                world = plain.closing((book[0] + 1, tuple(sorted(set(book[1]) | set(pairs)))))
                first, second = script_at(plain.closing(book), h, one, level), script_at(plain.closing(book), h, other, level)
                waters = plain.waters(world)
                left = [[book[0] in plain.run(world, at, script) for at in waters] for script in (first, second)]
                self.assertNotEqual(left[0], left[1])

    def test_five_names_and_16_deeds(self):
        for book in FIVES:
            for h in (1, 4):
                for stride in range(1, 4):
                    script = height_script(book, h, 15, stride)
                    for other in turned(script)[::5] + [height_script(book, h, 16, stride), script[::-1]]:
                        thing = judge_heights_alike(book, h, script, other)
                        self.assertTrue(plain_heights.alike_holds(book, h, script, other, thing))
                        self.same(heights_alike_holds(book, h, script, other, thing), True)

    def test_edges(self):
        for h in (1, 2, 4):
            self.same(judge_heights_alike(ONE, h, (), ()), ("levels", ((),) * h))
            self.same(judge_heights_alike(ONE, h, (), (("pour", 0, h),))[0], "parts")
        # A pour to a level tells nothing of those above it.
        self.same(judge_heights_alike(ONE, 4, (), (("pour", 0, 1),))[:2], ("parts", 1))
        self.same(judge_heights_alike(ONE, 4, (), (("open", 0, 3),))[:2], ("parts", 4))

    def test_an_order_that_does_not_matter(self):
        self.same(judge_heights_alike(ONE, 2, TURN, TURNED)[0], "levels")
        for at in (0, 1):
            self.same(judge_heights_alike(ONE, 2, TURN, TURN[:at] + TURN[at + 1 :])[0], "parts")

    def test_for_h_1_it_is_alike(self):
        for book in BOOKS_2:
            for stride in range(1, 5):
                one, other = height_script(book, 1, 4, stride), height_script(book, 1, 3, stride + 1)
                plainly = [tuple((sort, x) for sort, x, _ in script) for script in (one, other)]
                wanted = judge_alike(book, *plainly)[0] == "steps"
                self.assertEqual(judge_heights_alike(book, 1, one, other)[0] == "levels", wanted)


class AlikeHolds(Case):
    def hold(self, book, h, one, other, others):
        """Certificates that are right, and ones that are changed at one place, as the words say of them."""
        good = judge_heights_alike(book, h, one, other)
        self.same(heights_alike_holds(book, h, one, other, good), True)
        accepted = 0
        for thing in changed(good, others):
            wanted = plain_heights.alike_holds(book, h, one, other, thing)
            self.same(heights_alike_holds(book, h, one, other, thing), wanted, (book, h, one, other, thing))
            accepted += wanted
        return good[0], accepted

    def test_changed_levels(self):
        found = []
        for book in [ONE, STEP, OPEN_CHAIN, RING]:
            script = height_script(book, 2, 4, 2)
            for other in turned(script):
                if plain_heights.alike(book, 2, script, other):
                    found.append(self.hold(book, 2, script, other, FEW))
        found += [self.hold(ONE, 2, TURN, TURNED, FEW), self.hold(ONE, 4, TURN, TURNED, FEW)]
        self.assertEqual({sort for sort, _ in found}, {"levels"})

    def test_changed_parts(self):
        for book in [ONE, STEP, OPEN_CHAIN]:
            for h in (1, 2, 4):
                script = height_script(book, h, 4, 1)
                for other in [(), script[:1], script[1:]]:
                    if not plain_heights.alike(book, h, script, other):
                        self.assertEqual(self.hold(book, h, script, other, THINGS)[0], "parts")

    def test_all_levels_and_kinds(self):
        for book in [ONE, STEP, (2, ())]:
            for h in (1, 3):
                one, other = height_script(book, h, 3, 1), height_script(book, h, 3, 2)
                for level in range(-1, h + 3):
                    for below in plain.lots(book[0]):
                        for above in plain.lots(book[0]):
                            thing = ("parts", level, below, above)
                            wanted = plain_heights.alike_holds(book, h, one, other, thing)
                            self.same(heights_alike_holds(book, h, one, other, thing), wanted)

    def test_steps_stand_at_their_level(self):
        one, other = (("pour", 0, 1), ("pour", 0, 2), ("pour", 0, 2)), (("pour", 0, 2),)
        struck = (("strike", 0, 1),)
        for first in [(), struck, struck * 2]:
            for second in [(), struck, struck * 2]:
                wanted = (first, second) == (struck * 2, struck)
                self.same(heights_alike_holds(ONE, 2, one, other, ("levels", (first, second))), wanted)
        self.same(heights_alike_holds(ONE, 2, one, other, ("levels", (struck * 2, struck, ()))), False)
        self.same(heights_alike_holds(ONE, 2, one, other, ("levels", (struck * 2,))), False)
        self.same(heights_alike_holds(ONE, 2, one, other, ("levels", [struck * 2, struck])), False)

    def test_any_values(self):
        for thing in THINGS + [("levels", thing) for thing in THINGS] + [("parts", 1, (), thing) for thing in THINGS]:
            for other in (TURNED, ()):
                wanted = plain_heights.alike_holds(ONE, 2, TURN, other, thing)
                self.same(heights_alike_holds(book=ONE, h=2, one=TURN, other=other, thing=thing), wanted)


class Errors(Case):
    def test_in_order(self):
        for function, more in [(judge_heights_alike, {}), (heights_alike_holds, {"thing": None})]:
            for thing in THINGS:
                if not plain.is_book(thing):
                    self.fails(BadBook, {"thing": thing}, function, other=None, one=None, h=0, book=thing, **more)
                if not (plain.is_int(thing) and 1 <= thing <= 4):
                    self.fails(BadNumber, {"thing": thing}, function, STEP, thing, None, [], *more.values())
            for thing in [*changed(TURN[:2]), *scripts_without_heights()]:
                if not plain_heights.is_height_script(2, 2, thing):
                    self.fails(BadScript, {"thing": thing}, function, STEP, 2, thing, None, *more.values())
                    self.fails(BadScript, {"thing": thing}, function, other=thing, one=(), h=2, book=STEP, **more)

    def test_deeds_are_bounded_by_h(self):
        self.fails(BadScript, {"thing": TURN}, judge_heights_alike, ONE, 1, TURN, TURN)
        self.fails(BadScript, {"thing": TURN}, judge_heights_alike, ONE, 1, (), TURN)


def scripts_without_heights():
    """Scripts of deeds without heights are no height scripts."""
    return [(("pour", 0),), (("open", 1), ("pour", 0))]

"""[13.5] texts of works, written, read back, and changed anywhere."""

from pourdrains.errors import BadText
from pourdrains.works import Works, read_works
from tests import plain
from tests.plain_works import Record, hill_text, read_text, text_of
from tests.same import Case
from tests.test_hills import FLAT_10, LINE_10, POND_10
from tests.things import THINGS, made_works, state_of

FORK = (3, ((0, 2), (1, 2)))
STEP = (2, ((0, 1),))
SIGNS = ["", " ", "\n", "0", "1", "9", "a", "-", "+", "W", "\t", "\r", "_", "~"]
LINES = ["", " ", "hill 2", "hill 3", "0 1", "1 0", "0 2", "1 2", "2 0", "water", "water 0", "water 1", "water 0 1", "water "]
LINES += ["promise wet 0", "promise wet 1", "promise dry 0", "promise dry 2", "promise dry 3", "promise", "promise wet"]


def works_of(hill, water, promises):
    works = Works(hill, water)
    for promise in promises:
        works.promise(promise)
    return works


def promises_for(hill, water, stride):
    every = sorted(("wet" if at in water else "dry", at) for at in range(hill[0]))
    return tuple(every[::stride])


def some_states():
    found = []
    for hill in plain.hills(1) + plain.hills(2) + plain.hills(3)[::4]:
        for water in plain.waters(hill):
            found += [(hill, water, promises_for(hill, water, stride)) for stride in (1, 2)] + [(hill, water, ())]
    for hill in [LINE_10, FLAT_10, POND_10]:
        for water in plain.waters(hill)[:: 1 if hill != FLAT_10 else 177]:
            found += [(hill, water, promises_for(hill, water, 1)), (hill, water, promises_for(hill, water, 3))]
    return found


class Texts(Case):
    def test_written(self):
        for hill, water, promises in some_states():
            self.same(works_of(hill, water, promises).text(), text_of(hill, water, promises))

    def test_read_back(self):
        for hill, water, promises in some_states():
            works = works_of(hill, water, promises)
            found = read_works(text=works.text())
            self.assertIs(type(found), Works)
            self.same(state_of(found), (hill, water, promises, (), works.text(), 0, 0))
            self.assertTrue(works.is_same(found) and found.is_same(works))

    def test_what_was_done_is_not_told(self):
        works = made_works()
        found = read_works(works.text())
        self.same(state_of(found), state_of(works)[:3] + ((), works.text(), 0, 0))
        found.do((("open", 1),))
        found.undo()
        self.same(found.undoable(), 0)

    def test_read_works_go_on(self):
        found, record = read_works("hill 2\n0 1\nwater 0\npromise wet 0"), Record(STEP, (0,))
        record.call("promise", ("wet", 0))
        for call in [("do", (("pour", 1),)), ("do", (("open", 0),)), ("raise_pair", 1, 0), ("release", ("wet", 0))]:
            try:
                got = getattr(found, call[0])(*call[1:])
            except Exception as error:
                got = (type(error), vars(error))
            self.same(got, record.call(*call))
            self.same(state_of(found)[:5], record.read()[:5])


class Changed(Case):
    def hold(self, text):
        wanted = read_text(text)
        if wanted[0] == "wrong":
            self.fails(BadText, {"at": wanted[1]}, read_works, text)
        else:
            found = read_works(text)
            self.same((found.hill(), found.water(), found.promises()), wanted[1:], text)
            self.same(found.text(), text)
        return wanted[0]

    def texts(self):
        return [
            text_of(FORK, (0, 1), (("dry", 2), ("wet", 0), ("wet", 1))),
            text_of((3, ((0, 1), (0, 2), (1, 2))), (0,), (("dry", 2), ("wet", 0))),
            text_of((1, ()), (), ()),
            text_of((1, ()), (0,), (("wet", 0),)),
            text_of((10, ((0, 9), (1, 9))), (1,), (("dry", 0), ("dry", 9), ("wet", 1))),
            text_of((3, ((0, 1), (1, 0))), (2,), (("dry", 0),)),
        ]

    def test_signs(self):
        right = 0
        for text in self.texts():
            for at in range(len(text) + 1):
                for sign in SIGNS:
                    right += self.hold(text[:at] + sign + text[at:]) == "works"
                    right += self.hold(text[:at] + sign + text[at + 1 :]) == "works"
        self.assertGreater(right, 20)

    def test_lines(self):
        for text in self.texts():
            lines = text.split("\n")
            for at in range(len(lines) + 1):
                rows = [lines[:at] + [line] + lines[at:] for line in LINES]
                rows += [lines[:at] + [line] + lines[at + 1 :] for line in LINES]
                rows += [lines[:at] + lines[at + 1 :], lines[:at], lines[at:], lines[:at] + lines[at - 1 :]]
                rows += [lines[:at] + lines[other : other + 1] + lines[at:] for other in range(len(lines))]
                for row in rows:
                    self.hold("\n".join(row))

    def test_lines_exchanged(self):
        for text in self.texts():
            lines = text.split("\n")
            for one in range(len(lines)):
                for other in range(one):
                    row = list(lines)
                    row[one], row[other] = row[other], row[one]
                    self.hold("\n".join(row))

    def test_two_lines_changed(self):
        lines = text_of((3, ((0, 1), (0, 2), (1, 2))), (0,), (("dry", 2),)).split("\n")
        for at in range(len(lines)):
            for behind in range(at + 1, len(lines)):
                for one in LINES[::2]:
                    for other in LINES:
                        row = list(lines)
                        row[at], row[behind] = one, other
                        self.hold("\n".join(row))

    def test_all_waters_and_promises(self):
        for water in plain.lots(3):
            for sort in ("wet", "dry"):
                for at in range(4):
                    self.hold(hill_text(FORK) + "\nwater" + "".join(f" {x}" for x in water) + f"\npromise {sort} {at}")

    def test_edges(self):
        for text, at in [
            ("", 1),
            ("hill 2", 2),
            ("hill 2\n0 1", 3),
            ("hill 0", 1),
            ("hill 11\nwater", 1),
            ("hill 02\nwater", 1),
            ("water", 1),
            ("hill 2\nwater 1 0", 2),
            ("hill 2\nwater 2", 2),
            ("hill 2\nwater 00", 2),
            ("hill 2\nwater  0", 2),
            ("hill 2\nwater ", 2),
            ("hill 2\nWater", 2),
            ("hill 2\nwaters", 2),
            ("hill 2\n0 1\nwater 1", 3),
            # Pairs are missing where the line of the water stands, or where the text ends.
            ("hill 3\n0 1\n1 2\nwater", 4),
            ("hill 3\n0 1\n1 2\nwater 7", 4),
            ("hill 3\n0 1\n1 2", 4),
            ("hill 3\n0 1\n1 2\n", 4),
            ("hill 3\n0 1\n1 2\n0 2\nwater", 4),
            ("hill 2\nwater\n", 3),
            ("hill 2\nwater\nwater", 3),
            ("hill 2\nwater\n0 1", 3),
            ("hill 2\nwater\npromise wet 0", 3),
            ("hill 2\nwater\npromise dry 0\npromise dry 0", 4),
            ("hill 2\nwater\npromise dry 1\npromise dry 0", 4),
            ("hill 2\nwater 0\npromise wet 0\npromise dry 1", 4),
            ("hill 2\nwater 0\npromise dry 1\npromise wet 0\n", 5),
        ]:
            self.fails(BadText, {"at": at}, read_works, text)
            self.assertEqual(read_text(text), ("wrong", at), text)

    def test_any_values(self):
        for thing in THINGS:
            if type(thing) is str:
                self.hold(thing)
            else:
                self.fails(BadText, {"at": 0}, read_works, text=thing)

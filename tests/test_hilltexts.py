"""[1.6] texts of hills."""

from pourdrains.errors import BadText
from pourdrains.hilltexts import hill_text, read_hill
from tests import plain
from tests.same import Case
from tests.test_hills import FLAT_10, LINE_10, POND_10
from tests.things import THINGS

LINES_1 = ["hill 3", "0 1", "0 2", "1 2"]


def text_of(book):
    return "".join([f"hill {book[0]}"] + [f"\n{a} {b}" for a, b in book[1]])


def first_wrong(text):
    """The number of BadText for a text of up to 3 terraces, by comparing with all texts of books; None if it is one."""
    lines = text.split("\n")
    starts = {tuple(text_of(book).split("\n")[:k]) for many in (1, 2, 3) for book in plain.books(many) for k in range(9)}
    for at in range(len(lines)):
        if tuple(lines[: at + 1]) not in starts:
            return at + 1
    if text in [text_of(hill) for hill in plain.small_hills()]:
        return None
    return len(lines) + 1


class Texts(Case):
    def test_written_and_read(self):
        for hill in plain.small_hills() + plain.hills(4) + [LINE_10, FLAT_10, POND_10]:
            self.same(hill_text(hill), text_of(hill))
            self.same(read_hill(text_of(hill)), hill)

    def test_no_pairs(self):
        self.same([hill_text((1, ())), hill_text(FLAT_10)], ["hill 1", "hill 10"])
        self.same([read_hill("hill 1"), read_hill("hill 10")], [(1, ()), FLAT_10])

    def test_all_books(self):
        for many in (1, 2, 3):
            for book in plain.books(many):
                if plain.is_hill(book):
                    self.same(read_hill(text=text_of(book)), book)
                else:
                    self.fails(BadText, {"at": len(book[1]) + 2}, read_hill, text_of(book))

    def test_pairs_missing_at_the_end(self):
        lines = text_of(LINE_10).split("\n")
        for many in range(1, len(lines)):
            text = "\n".join(lines[:many])
            told = (10, LINE_10[1][: many - 1])
            if plain.is_hill(told):
                self.same(read_hill(text), told)
            else:
                self.fails(BadText, {"at": many + 1}, read_hill, text)

    def test_first_lines(self):
        wrong = ["", "hill", "hill ", "hill 0", "hill 11", "hill 01", "hill +1", "hill -1", "hill 1 ", " hill 1", "hill  1"]
        wrong += ["Hill 1", "hill one", "hill 1 0", "hill\t1", "book 2", "hill 1_0", "0 1", "hill 100", "hill True"]
        for head in wrong:
            for text in (head, head + "\n0 1", head + "\n"):
                self.fails(BadText, {"at": 1}, read_hill, text)

    def test_lines_of_pairs(self):
        wrong = ["", " ", "0", "0 0", "0 3", "3 0", "-1 0", "0 -1", "00 1", "0 01", "0  1", " 0 1", "0 1 ", "0 1 2", "0,1"]
        wrong += ["(0, 1)", "0\t1", "a b", "hill 3", "+0 1", "0 1.", "0 10", "1", "True False"]
        for line in wrong:
            self.fails(BadText, {"at": 2}, read_hill, "hill 3\n" + line)
            self.fails(BadText, {"at": 2}, read_hill, "hill 3\n" + line + "\n1 2")
            self.fails(BadText, {"at": 3}, read_hill, "hill 3\n0 1\n" + line)

    def test_out_of_order_or_twice(self):
        self.fails(BadText, {"at": 3}, read_hill, "hill 3\n0 2\n0 1")
        self.fails(BadText, {"at": 3}, read_hill, "hill 3\n0 1\n0 1")
        self.fails(BadText, {"at": 4}, read_hill, "hill 3\n0 1\n0 2\n0 1")

    def test_the_first_wrong_line_counts(self):
        self.fails(BadText, {"at": 2}, read_hill, "hill 3\n0 9\nno\nno")
        # The pairs (0, 1) and (1, 2) miss (0, 2), but the wrong line comes ahead of the end.
        self.fails(BadText, {"at": 4}, read_hill, "hill 3\n0 1\n1 2\n0 2")

    def test_line_feeds(self):
        self.fails(BadText, {"at": 2}, read_hill, "hill 1\n")
        self.fails(BadText, {"at": 3}, read_hill, "hill 2\n0 1\n")
        self.fails(BadText, {"at": 2}, read_hill, "hill 2\n\n0 1")
        self.fails(BadText, {"at": 1}, read_hill, "\nhill 2")

    def test_texts_changed_at_each_place(self):
        text = "\n".join(LINES_1)
        changed = [text[:at] + text[at + 1 :] for at in range(len(text))]
        changed += [text[:at] + sign + text[at:] for at in range(len(text) + 1) for sign in "0123 \n-h"]
        changed += [text[:at] + sign + text[at + 1 :] for at in range(len(text)) for sign in "0123 \n-h"]
        for one in range(4):
            for other in range(4):
                lines = list(LINES_1)
                lines[one], lines[other] = lines[other], lines[one]
                changed.append("\n".join(lines))
        for other in changed:
            at = first_wrong(other)
            if at is None:
                self.same(text_of(read_hill(other)), other)
            else:
                self.fails(BadText, {"at": at}, read_hill, other)

    def test_no_strings(self):
        for thing in THINGS:
            if not isinstance(thing, str):
                self.fails(BadText, {"at": 0}, read_hill, thing)
        self.fails(BadText, {"at": 0}, read_hill, text=["hill 1"])

"""[45] and [46]: deeds and books."""

import inspect
import time
import unittest

from pairdyes.books import Book, done
from pairdyes.closings import closing
from pairdyes.dyeings import dyeing_breach
from pairdyes.errors import NotDeed, NotDone, NotUndone, TooMany
from pairdyes.marks import marked
from pairdyes.numberings import numbered, turned
from pairdyes.products import side_by_side
from tests import samples
from tests.samples import THREE, TWO, WAY

# A long text of letters beside the words of the deeds, a deed in a list, and the like; none is a deed for WAY.
NO_DEEDS = samples.OTHER_VALUES + [
    (), ((),), ("",), ("part",), ("part", 0), ("part", 0, 1, 2), ("part", 0, 3), ("part", 3, 0), ("part", -1, 0),
    ("part", 0, -1), ("part", True, 0), ("part", 0, True), ("part", False, 1), ("part", 0.0, 1), ("part", "0", 1),
    ("part", None, 1), ("part", (0, 1)), ("part", [0], [1]), ("part", 0, 10 ** 30), ["part", 0, 1], ("Part", 0, 1),
    ("join",), ("join", 0), ("join", 0, 1, 2), ("join", 0, 0), ("join", 1, 1), ("join", 1, 0), ("join", 2, 1),
    ("join", 0, 3), ("join", -1, 0), ("join", 0, True), ("join", False, 1), ("join", 0, "1"), ("join", 0, None),
    ("join", 0, 1.0), ("join", (0, 1)), ("join", 3, 4), ["join", 0, 1],
    ("mark",), ("mark", 3), ("mark", -1), ("mark", True), ("mark", False), ("mark", (0,)), ("mark", "0"), ("mark", 0, 1),
    ("mark", None), ("mark", 0.0), ("mark", ()),
    ("list",), ("list", (0, 1)), ("list", (0, 1, 2, 3)), ("list", [0, 1, 2]), ("list", (0, 0, 1)), ("list", (0, 1, 3)),
    ("list", (False, 1, 2)), ("list", (0, True, 2)), ("list", (0, 1, 2.0)), ("list", "012"), ("list", None), ("list", ()),
    ("list", 0, 1, 2), ("list", (0, 1, 2), (0, 1, 2)), ("list", ((0, 1, 2),)), ("list", (0, 1, -1)), ("list", 3),
    ("turn", 0), ("turn", None), ("turn", ()), "turn", ["turn"], ("turned",), (("turn",),), ("TURN",), ("turn ",),
    ("close", 0), ("close", None), "close", ["close"], ("closing",), {"close": 1},
    ("beside",), ("beside", TWO, TWO), ("beside", None), ("beside", 0), ("beside", "0 1/1 0"), ("beside", [TWO]),
    ("beside", ((0, 1), (1, 2), (0, 0))), ("beside", ((1, 0), (0, 1))), ("beside", ((0, 2), (1, 0))),
    ("beside", ([0, 1], [1, 0])), ("beside", ((0, True), (1, 0))), ("beside", ((False,),)), ("beside", ((0, 0),)),
    ("beside", samples.even_dyeing(14)), ("beside", samples.even_dyeing(16)), ("beside", [[0]]),
    (None,), (0,), (True,), (None, 0, 1), ([], 0), ({}, 0, 1), (b"turn",), (("part", 0, 1), 0, 1), (1.5, 2), ("unknown",),
    ("unknown", 0), ("unknown", 0, 1), (set(),), ((), ()),
]


def some_deeds(dyeing):
    """One deed of each sort for a dyeing of at least three places and at most 14, with at least two dyes."""
    n = len(dyeing)
    return [
        ("part", 0, n - 1), ("join", 0, 1), ("mark", 1), ("list", samples.random_listing(n, n)), ("turn",), ("close",),
        ("beside", TWO),
    ]


class DoneTest(unittest.TestCase):
    def test_part(self):
        self.assertEqual(done(WAY, ("part", 0, 0)), ((0, 1, 2), (1, 3, 1), (2, 1, 3)))
        self.assertEqual(done(WAY, ("part", 0, 1)), ((0, 1, 2), (3, 0, 3), (2, 3, 0)))
        self.assertEqual(done(WAY, ("part", 2, 0)), ((0, 1, 2), (1, 0, 1), (3, 1, 0)))
        self.assertEqual(done(WAY, ("part", 1, 2)), ((0, 1, 2), (1, 0, 3), (2, 1, 0)))
        self.assertEqual(done(((0,),), ("part", 0, 0)), ((0,),))
        # A pair that has a dye of its own keeps it.
        self.assertEqual(done(((0, 1), (2, 3)), ("part", 1, 0)), ((0, 1), (2, 3)))
        for dyeing in samples.some_dyeings(5):
            for x, y in samples.pairs(dyeing):
                table = [[(entry, (u, v) == (x, y)) for v, entry in enumerate(row)] for u, row in enumerate(dyeing)]
                self.assertEqual(done(dyeing, ("part", x, y)), samples.plain_dyed(table))

    def test_join(self):
        self.assertEqual(done(WAY, ("join", 0, 1)), ((0, 0, 1), (0, 0, 0), (1, 0, 0)))
        self.assertEqual(done(WAY, ("join", 0, 2)), ((0, 1, 0), (1, 0, 1), (0, 1, 0)))
        self.assertEqual(done(WAY, ("join", 1, 2)), THREE)
        self.assertEqual(done(((0, 1), (2, 3)), ("join", 1, 2)), ((0, 1), (1, 2)))
        self.assertEqual(done(samples.full_dyeing(16), ("join", 3, 255))[15][14:], (254, 3))

    def test_the_other_deeds(self):
        for dyeing in samples.some_dyeings(5):
            n = len(dyeing)
            for x in range(n):
                self.assertEqual(done(dyeing, ("mark", x)), marked(dyeing, (x,)))
            listing = samples.random_listing(n, n)
            self.assertEqual(done(dyeing, ("list", listing)), numbered(dyeing, listing))
            self.assertEqual(done(dyeing, ("turn",)), turned(dyeing))
            self.assertEqual(done(dyeing, ("close",)), closing(dyeing))
            for other in [(), ((0,),), WAY, samples.random_dyeing(n, 7, 4)]:
                self.assertEqual(done(dyeing, ("beside", other)), side_by_side(dyeing, other))
        self.assertEqual(done(WAY, ("mark", 1)), ((0, 1, 2), (1, 3, 1), (2, 1, 0)))
        self.assertEqual(done(WAY, ("list", (1, 0, 2))), ((0, 1, 1), (1, 0, 2), (1, 2, 0)))
        self.assertEqual(done(((0, 1), (2, 0)), ("turn",)), ((0, 1), (2, 0)))
        self.assertEqual(done(((0, 1, 1), (2, 0, 1), (2, 2, 0)), ("list", (2, 1, 0))), ((0, 1, 1), (2, 0, 1), (2, 2, 0)))
        self.assertEqual(done(WAY, ("close",)), ((0, 1, 2), (3, 4, 3), (2, 1, 0)))
        self.assertEqual(done(((0,),), ("beside", ((0,),))), ((0, 1), (2, 3)))

    def test_sixteen_places(self):
        even = samples.even_dyeing
        self.assertEqual(len(done(WAY, ("beside", even(13)))), 16)
        self.assertEqual(done(even(16), ("beside", ())), even(16))
        self.assertEqual(done((), ("beside", even(16))), even(16))
        self.assertRaises(NotDeed, done, WAY, ("beside", even(14)))
        self.assertRaises(NotDeed, done, even(16), ("beside", ((0,),)))
        self.assertRaises(NotDeed, done, even(16), ("beside", even(16)))

    def test_deeds_that_change_nothing(self):
        closed = closing(WAY)
        self.assertEqual(done(closed, ("close",)), closed)
        self.assertEqual(done(WAY, ("list", (0, 1, 2))), WAY)
        self.assertEqual(done(WAY, ("list", (2, 1, 0))), WAY)
        self.assertEqual(done(WAY, ("turn",)), WAY)
        self.assertEqual(done(WAY, ("beside", ())), WAY)
        full = samples.full_dyeing(3)
        self.assertEqual(done(full, ("mark", 2)), full)
        self.assertEqual(done(full, ("part", 2, 1)), full)

    def test_the_empty_dyeing(self):
        for deed in [("turn",), ("close",), ("list", ()), ("beside", ())]:
            self.assertEqual(done((), deed), ())
        self.assertEqual(done((), ("beside", WAY)), WAY)
        for deed in [("part", 0, 0), ("mark", 0), ("join", 0, 1), ("list", (0,))]:
            self.assertRaises(NotDeed, done, (), deed)

    def test_values_that_are_no_deed(self):
        for value in NO_DEEDS:
            self.assertRaises(NotDeed, done, WAY, value)

    def test_what_is_returned_is_a_dyeing(self):
        for dyeing in samples.some_dyeings(5)[24:]:
            if samples.plain_dye_count(dyeing) > 1 and len(dyeing) > 2:
                for deed in some_deeds(dyeing):
                    self.assertIsNone(dyeing_breach(done(dyeing, deed)))


class BookTest(unittest.TestCase):
    def assert_book(self, book, begun, deeds):
        """Checks that a book stands where deeds lead from a dyeing."""
        dyeing = begun
        for deed in deeds:
            dyeing = done(dyeing, deed)
        self.assertEqual(book.now, dyeing)
        self.assertEqual(book.deeds, tuple(deeds))
        self.assertIs(type(book.deeds), tuple)

    def test_the_class(self):
        for name in ("now", "deeds"):
            self.assertIsInstance(vars(Book)[name], property)
        for name, arguments in {"do": ["deed"], "undo": [], "again": [], "trial": ["deeds"], "twin": []}.items():
            self.assertEqual(list(inspect.signature(vars(Book)[name]).parameters), ["self"] + arguments)
        most = inspect.signature(Book).parameters["most"]
        self.assertEqual((most.kind, most.default), (most.KEYWORD_ONLY, 40))
        self.assertRaises(TypeError, Book, WAY, 5)
        self.assertEqual(Book(dyeing=WAY, most=1).now, WAY)

    def test_a_new_book(self):
        for dyeing in [(), ((0,),), WAY, samples.xor_dyeing(4)]:
            book = Book(dyeing)
            self.assert_book(book, dyeing, [])
            self.assertRaises(NotDone, book.undo)
            self.assertRaises(NotUndone, book.again)
            self.assert_book(book, dyeing, [])

    def test_do(self):
        book = Book(WAY)
        deeds = []
        for deed in [("mark", 0), ("close",), ("turn",), ("list", (2, 0, 1)), ("join", 1, 3), ("beside", TWO), ("part", 4, 0)]:
            self.assertIsNone(book.do(deed))
            deeds.append(deed)
            self.assert_book(book, WAY, deeds)
        self.assertIsNone(book.do(deed=("close",)))
        self.assert_book(book, WAY, deeds + [("close",)])

    def test_values_that_are_no_deed(self):
        book = Book(WAY)
        book.do(("turn",))
        book.do(("turn",))
        book.undo()
        for value in NO_DEEDS:
            self.assertRaises(NotDeed, book.do, value)
            self.assert_book(book, WAY, [("turn",)])
        self.assertEqual(book.again(), ("turn",))

    def test_deeds_that_fit_only_as_the_book_stands(self):
        book = Book(WAY)
        self.assertRaises(NotDeed, book.do, ("mark", 4))
        book.do(("beside", TWO))
        book.do(("mark", 4))
        self.assertRaises(NotDeed, book.do, ("list", (0, 1, 2)))
        book.undo()
        book.undo()
        self.assertRaises(NotDeed, book.do, ("mark", 4))
        self.assert_book(book, WAY, [])

    def test_most(self):
        for most in (1, 2, 3, 40):
            book = Book(WAY, most=most) if most < 40 else Book(WAY)
            for _ in range(most):
                book.do(("turn",))
            for value in (None, ("unknown",), ("mark", 3), ("list", (0, 1))):
                self.assertRaises(NotDeed, book.do, value)
            for deed in [("turn",), ("close",), ("mark", 0)]:
                with self.assertRaises(TooMany) as caught:
                    book.do(deed)
                self.assertEqual(caught.exception.limit, most)
            self.assert_book(book, WAY, [("turn",)] * most)
            # Taken back deeds do not count, and what was taken back can still be done again.
            self.assertEqual(book.undo(), ("turn",))
            book.do(("close",))
            self.assertRaises(TooMany, book.do, ("close",))
            self.assert_book(book, WAY, [("turn",)] * (most - 1) + [("close",)])

    def test_too_many_leaves_what_was_undone(self):
        book = Book(WAY, most=1)
        book.do(("mark", 1))
        self.assertRaises(TooMany, book.do, ("turn",))
        self.assertEqual(book.undo(), ("mark", 1))
        self.assertRaises(NotDeed, book.do, ("mark", 3))
        self.assertEqual(book.again(), ("mark", 1))
        self.assertRaises(NotUndone, book.again)
        self.assert_book(book, WAY, [("mark", 1)])

    def test_undo_and_again(self):
        deeds = [("mark", 0), ("turn",), ("close",), ("list", (1, 0, 2)), ("beside", ((0,),))]
        book = Book(WAY)
        for deed in deeds:
            book.do(deed)
        for many in (1, 3, 5):
            for at in range(many):
                self.assertEqual(book.undo(), deeds[-1 - at])
                self.assert_book(book, WAY, deeds[:len(deeds) - 1 - at])
            if many == 5:
                self.assertRaises(NotDone, book.undo)
                self.assert_book(book, WAY, [])
            for at in reversed(range(many)):
                self.assertEqual(book.again(), deeds[-1 - at])
                self.assert_book(book, WAY, deeds[:len(deeds) - at])
            self.assertRaises(NotUndone, book.again)
            self.assert_book(book, WAY, deeds)

    def test_do_forgets_what_was_undone(self):
        book = Book(WAY)
        book.do(("mark", 0))
        book.do(("turn",))
        book.undo()
        book.undo()
        book.do(("close",))
        self.assertRaises(NotUndone, book.again)
        self.assert_book(book, WAY, [("close",)])
        book.undo()
        self.assertEqual(book.again(), ("close",))
        self.assertRaises(NotUndone, book.again)

    def test_a_mix_of_undo_and_again(self):
        book = Book(WAY)
        for deed in [("mark", 0), ("mark", 1), ("mark", 2)]:
            book.do(deed)
        book.undo()
        book.undo()
        self.assertEqual(book.again(), ("mark", 1))
        self.assertEqual(book.undo(), ("mark", 1))
        self.assertEqual(book.undo(), ("mark", 0))
        self.assertEqual([book.again() for _ in range(3)], [("mark", 0), ("mark", 1), ("mark", 2)])
        self.assert_book(book, WAY, [("mark", 0), ("mark", 1), ("mark", 2)])

    def test_trial(self):
        book = Book(WAY, most=2)
        book.do(("mark", 0))
        book.do(("turn",))
        book.undo()
        self.assertEqual(book.trial(()), book.now)
        self.assertEqual(book.trial(deeds=(("close",),)), closing(marked(WAY, (0,))))
        self.assertEqual(book.trial((("turn",),) * 100), marked(WAY, (0,)))
        self.assertEqual(len(book.trial((("beside", TWO), ("mark", 4), ("close",), ("beside", WAY)))), 8)
        self.assertEqual(len(book.trial((("beside", WAY),) * 4)), 15)
        self.assert_book(book, WAY, [("mark", 0)])
        self.assertEqual(book.again(), ("turn",))
        # Though no further deed could be done.
        self.assertEqual(book.trial((("mark", 1), ("mark", 2))), marked(WAY, (0, 1, 2)))
        self.assert_book(book, WAY, [("mark", 0), ("turn",)])

    def test_trials_behind_several_deeds(self):
        book = Book(WAY)
        self.assertEqual(book.trial((("mark", 1),)), marked(WAY, (1,)))
        deeds = [("mark", 0), ("list", (1, 0, 2)), ("beside", TWO), ("part", 0, 4), ("close",)]
        for deed in deeds:
            book.do(deed)
            for tried in (("turn",), ("mark", 2), ("beside", ((0,),)), ("join", 0, 2)):
                self.assertEqual(book.trial((tried,)), done(book.now, tried))
                self.assertEqual(book.trial((tried, ("close",))), closing(done(book.now, tried)))
        self.assert_book(book, WAY, deeds)

    def test_trials_that_do_not_fit(self):
        book = Book(WAY)
        book.do(("turn",))
        book.do(("turn",))
        book.undo()
        wrong = [value for value in NO_DEEDS if not isinstance(value, tuple)] + [
            [("turn",)], ("turn",), ("mark", 0), (("turn",), None), (("turn",), ("mark", 3), ("turn",)),
            (("beside", WAY),) * 5, (("mark", 3), ("beside", TWO)), (("join", 1, 2), ("join", 1, 2)), ((),),
            (["turn"],), ((("turn",),),), (("list", (0, 1, 2)), ("beside", TWO), ("list", (0, 1, 2))),
        ]
        for value in wrong:
            self.assertRaises(NotDeed, book.trial, value)
            self.assert_book(book, WAY, [("turn",)])
        for value in NO_DEEDS:
            self.assertRaises(NotDeed, book.trial, (value,))
            self.assertRaises(NotDeed, book.trial, (("turn",), value, ("close",)))
        self.assertEqual(book.again(), ("turn",))

    def test_twin(self):
        book = Book(WAY, most=3)
        book.do(("mark", 0))
        book.do(("turn",))
        book.do(("close",))
        book.undo()
        book.undo()
        twin = book.twin()
        self.assertIsInstance(twin, Book)
        self.assertIsNot(twin, book)
        self.assert_book(twin, WAY, [("mark", 0)])
        self.assertEqual(twin.again(), ("turn",))
        self.assert_book(book, WAY, [("mark", 0)])
        self.assertEqual(book.undo(), ("mark", 0))
        self.assert_book(twin, WAY, [("mark", 0), ("turn",)])
        self.assertEqual(twin.again(), ("close",))
        self.assertRaises(NotUndone, twin.again)
        with self.assertRaises(TooMany) as caught:
            twin.do(("turn",))
        self.assertEqual(caught.exception.limit, 3)
        self.assertEqual([book.again() for _ in range(3)], [("mark", 0), ("turn",), ("close",)])
        self.assertEqual([twin.undo() for _ in range(3)], [("close",), ("turn",), ("mark", 0)])
        self.assertRaises(NotDone, twin.undo)
        self.assert_book(book, WAY, [("mark", 0), ("turn",), ("close",)])
        self.assertEqual(twin.now, WAY)

    def test_a_twin_stands_by_itself(self):
        book = Book(WAY)
        book.do(("mark", 0))
        book.undo()
        twin = book.twin()
        book.do(("close",))
        self.assertRaises(NotUndone, book.again)
        self.assertEqual(twin.again(), ("mark", 0))
        twin.do(("turn",))
        self.assert_book(book, WAY, [("close",)])
        self.assert_book(twin, WAY, [("mark", 0), ("turn",)])
        self.assertEqual(Book(WAY).twin().twin().now, WAY)

    def test_two_books_of_one_dyeing(self):
        one, other = Book(WAY), Book(WAY)
        one.do(("mark", 0))
        self.assert_book(other, WAY, [])
        self.assertRaises(NotDone, other.undo)

    def test_what_was_read_is_not_changed(self):
        book = Book(WAY)
        book.do(("mark", 0))
        now, deeds = book.now, book.deeds
        book.do(("turn",))
        self.assertEqual((now, deeds), (marked(WAY, (0,)), (("mark", 0),)))
        with self.assertRaises(AttributeError):
            book.now = WAY
        with self.assertRaises(AttributeError):
            book.deeds = ()

    def test_many_deeds_without_a_long_run(self):
        begun = time.perf_counter()
        dyeing = samples.random_dyeing(4, 16, 3)
        book = Book(dyeing, most=200)
        deeds = [("part", at % 16, at * 7 % 16) if at % 5 else ("turn",) for at in range(200)]
        for deed in deeds:
            book.do(deed)
        self.assertRaises(TooMany, book.do, ("turn",))
        self.assert_book(book, dyeing, deeds)
        self.assertEqual([book.undo() for _ in deeds], deeds[::-1])
        self.assertEqual(book.now, dyeing)
        self.assertEqual([book.again() for _ in deeds], deeds)
        self.assert_book(book.twin(), dyeing, deeds)
        self.assertEqual(book.trial((("close",),)), closing(book.now))
        for _ in range(2000):
            book.undo()
            book.again()
        self.assertLess(time.perf_counter() - begun, 30)


if __name__ == "__main__":
    unittest.main()

import unittest

from examples import WRITINGS, all_things, nested
from halls import ALL_OF_THREE, LIAR, SO_IN, every_world, fitting, is_so, picked_halls, small_halls
from knavehall.errors import HallError, NoText, NoWorld
from knavehall.sayings import is_hall
from knavehall.worlds import fits, known, so, worlds


class SoTest(unittest.TestCase):
    def assert_number(self, found, number, note=None):
        self.assertIs(type(found), int, note)
        self.assertEqual(found, number, note)

    def test_each_kind_of_thing(self):
        for thing, so_in in SO_IN:
            for world in ALL_OF_THREE:
                with self.subTest(thing=thing, world=world):
                    self.assert_number(so(thing, world), 1 if world in so_in else 0)

    def test_many_at_each_number(self):
        for many in range(1, 7):
            for world in every_world(many):
                knights = world.count(1)
                self.assert_number(so(("many", 0), world), 1)
                self.assert_number(so(("many", knights), world), 1)
                self.assert_number(so(("many", knights + 1), world), 0)
                self.assert_number(so(("many", 7), world), 0)
                for n in range(8):
                    self.assert_number(so(("many", n), world), 1 if n <= knights else 0)

    def test_each_guest(self):
        for many in range(1, 7):
            for world in every_world(many):
                for k in range(many):
                    self.assert_number(so(("is", k), world), world[k])
                    self.assert_number(so(("says", k, ("many", 0)), world), world[k])
                    self.assert_number(so(("says", k, ("many", 7)), world), 1 - world[k])

    def test_every_short_thing(self):
        for words in range(2, 6):
            for thing in all_things(words, 2):
                for world in every_world(2):
                    self.assert_number(so(thing, world), int(is_so(thing, world)), thing)

    def test_thirty_deep(self):
        for depth in (29, 30, 31, 40):
            for thing, text in WRITINGS:
                deep = nested(thing, depth)
                for world in every_world(2):
                    self.assert_number(so(deep, world), int(is_so(deep, world)), deep)

    def test_nots_and_saids_thirty_deep(self):
        for world in every_world(2):
            denied = ("is", 1)
            said = ("is", 1)
            for step in range(30):
                denied = ("not", denied)
                said = ("says", 0, said)
            self.assert_number(so(denied, world), world[1])
            self.assert_number(so(said, world), world[1])
            self.assert_number(so(("not", said), world), 1 - world[1])

    def test_numbers_somewhat_beyond_the_bound_are_not_refused(self):
        self.assert_number(so(("many", 8), (1,) * 8), 1)
        self.assert_number(so(("many", 9), (1,) * 8), 0)
        self.assert_number(so(("is", 6), (0, 0, 0, 0, 0, 0, 1)), 1)

    def test_arguments_by_name(self):
        self.assert_number(so(thing=("is", 0), world=(1,)), 1)


class FitsTest(unittest.TestCase):
    def test_no_saying_fits_all(self):
        for many in range(1, 7):
            for world in every_world(many):
                self.assertIs(fits((many, ()), world), True)

    def test_one_saying(self):
        # A knight says what is so, a knave what is not.
        hall = (2, ((0, ("is", 1)),))
        for world, fit in (((0, 0), True), ((0, 1), False), ((1, 0), False), ((1, 1), True)):
            with self.subTest(world=world):
                self.assertIs(fits(hall, world), fit)

    def test_each_saying_must_fit(self):
        fitting_all = (0, ("many", 0))
        fitting_none = (0, ("many", 7))
        self.assertIs(fits((1, (fitting_all,)), (1,)), True)
        for sayings in ((fitting_all, fitting_none), (fitting_none, fitting_all), (fitting_none, fitting_none)):
            with self.subTest(sayings=sayings):
                self.assertIs(fits((1, sayings), (1,)), False)

    def test_the_last_of_twelve_counts(self):
        for many in (1, 6):
            agreeing = ((0, ("is", 0)),) * 11
            self.assertIs(fits((many, agreeing + ((0, ("is", 0)),)), (1,) * many), True)
            self.assertIs(fits((many, agreeing + (LIAR,)), (1,) * many), False)

    def test_many_halls(self):
        for hall in picked_halls(1, 120, most_sayings=3):
            expected = fitting(hall)
            for world in every_world(hall[0]):
                self.assertIs(fits(hall, world), world in expected, hall)

    def test_arguments_by_name(self):
        self.assertIs(fits(hall=(1, ()), world=(0,)), True)


class WorldsTest(unittest.TestCase):
    def assert_worlds(self, hall, expected):
        found = worlds(hall)
        # repr tells truths and lists from numbers and tuples.
        self.assertEqual(repr(found), repr(expected), hall)
        self.assertEqual(list(found), sorted(set(found)), hall)

    def test_no_saying(self):
        self.assert_worlds((1, ()), ((0,), (1,)))
        self.assert_worlds((2, ()), ((0, 0), (0, 1), (1, 0), (1, 1)))
        for many in range(1, 7):
            self.assert_worlds((many, ()), every_world(many))
            self.assertEqual(len(worlds((many, ()))), 2 ** many)

    def test_one_world(self):
        # "We both are knaves", said by guest 0.
        self.assert_worlds((2, ((0, ("not", ("many", 1))),)), ((0, 1),))
        self.assert_worlds((1, ((0, ("many", 1)), (0, ("many", 0)))), ((1,),))
        self.assert_worlds((6, tuple((k, ("many", 0)) for k in range(6))), ((1,) * 6,))
        self.assert_worlds((6, tuple((k, ("many", 7)) for k in range(6))), ((0,) * 6,))

    def test_several_worlds(self):
        self.assert_worlds((2, ((0, ("is", 1)),)), ((0, 0), (1, 1)))
        self.assert_worlds((2, ((0, ("not", ("is", 1))),)), ((0, 1), (1, 0)))
        self.assert_worlds((3, ((0, ("many", 2)),)), ((0, 0, 0), (0, 0, 1), (0, 1, 0), (1, 0, 1), (1, 1, 0), (1, 1, 1)))

    def test_no_world(self):
        self.assert_worlds((1, (LIAR,)), ())
        self.assert_worlds((2, ((0, ("is", 1)), (1, ("not", ("is", 0))))), ())
        self.assert_worlds((6, ((5, ("is", 0)), (0, ("not", ("is", 5))))), ())

    def test_twelve_sayings(self):
        ring = tuple((k, ("is", (k + 1) % 6)) for k in range(6))
        back = tuple((k, ("is", (k + 5) % 6)) for k in range(6))
        self.assert_worlds((6, ring + back), ((0,) * 6, (1,) * 6))
        self.assert_worlds((6, ring + back[:-1] + ((5, ("many", 3)),)), ((0,) * 6, (1,) * 6))
        self.assert_worlds((6, ring + back[:-1] + ((5, ("not", ("many", 3))),)), ())

    def test_many_halls(self):
        for most in (1, 2, 5, 12):
            for hall in picked_halls(2 + most, 90, most_sayings=most):
                self.assertTrue(is_hall(hall))
                self.assert_worlds(hall, fitting(hall))

    def test_every_small_hall(self):
        for hall in small_halls():
            self.assert_worlds(hall, fitting(hall))

    def test_numbers_somewhat_beyond_the_bound_are_not_refused(self):
        self.assert_worlds((7, ()), every_world(7))
        hall = (7, ((6, ("many", 8)), (0, ("many", 1))))
        self.assert_worlds(hall, fitting(hall))
        self.assert_worlds((1, ((0, ("is", 0)),) * 14), ((0,), (1,)))

    def test_arguments_by_name(self):
        self.assertEqual(worlds(hall=(1, ())), ((0,), (1,)))


class KnownTest(unittest.TestCase):
    def assert_known(self, hall, expected):
        self.assertEqual(repr(known(hall)), repr(expected), hall)

    def test_nothing_is_known(self):
        for many in range(1, 7):
            self.assert_known((many, ()), (None,) * many)
        self.assert_known((2, ((0, ("is", 1)),)), (None, None))

    def test_all_is_known(self):
        self.assert_known((2, ((0, ("not", ("many", 1))),)), (0, 1))
        self.assert_known((1, ((0, ("many", 0)),)), (1,))
        self.assert_known((1, ((0, ("many", 7)),)), (0,))

    def test_knight_knave_and_unknown_in_one_answer(self):
        self.assert_known((3, ((0, ("many", 0)), (1, ("many", 7)))), (1, 0, None))
        self.assert_known((3, ((2, ("many", 0)), (0, ("many", 7)))), (0, None, 1))
        self.assert_known((6, ((4, ("many", 0)), (5, ("many", 7)))), (None, None, None, None, 1, 0))

    def test_no_world(self):
        for hall in ((1, (LIAR,)), (6, (LIAR,)), (2, ((0, ("is", 1)), (1, ("not", ("is", 0)))))):
            for taken_by in (NoWorld, HallError, ValueError):
                with self.subTest(hall=hall, taken_by=taken_by):
                    with self.assertRaises(taken_by) as caught:
                        known(hall)
                    self.assertIsInstance(caught.exception, NoWorld)
                    self.assertNotIsInstance(caught.exception, NoText)

    def test_many_halls(self):
        answers = set()
        for most in (1, 2, 5, 12):
            for hall in picked_halls(20 + most, 90, most_sayings=most):
                fit = fitting(hall)
                if not fit:
                    with self.assertRaises(NoWorld):
                        known(hall)
                    continue
                expected = []
                for numbers in zip(*fit):
                    expected.append(numbers[0] if len(set(numbers)) == 1 else None)
                answers.update(expected)
                self.assert_known(hall, tuple(expected))
        self.assertEqual(answers, {0, 1, None})

    def test_arguments_by_name(self):
        self.assertEqual(known(hall=(1, ())), (None,))


if __name__ == "__main__":
    unittest.main()

import itertools
import unittest

from examples import WRITINGS, nested
from halls import fitting, every_world, picked_halls, small_halls
from knavehall.sayings import is_hall
from knavehall.turning import renamed, turned
from knavehall.worlds import fits, worlds


def exchanged(world):
    return tuple(1 - number for number in world)


# Things among three guests, with what they are turned into.
TURNED = (
    (("is", 0), ("is", 0)),
    (("is", 2), ("is", 2)),
    (("many", 0), ("many", 4)),
    (("many", 1), ("many", 3)),
    (("many", 2), ("many", 2)),
    (("many", 3), ("many", 1)),
    (("many", 4), ("many", 0)),
    (("many", 5), ("many", 0)),
    (("many", 7), ("many", 0)),
    (("not", ("is", 1)), ("not", ("is", 1))),
    (("not", ("many", 1)), ("not", ("many", 3))),
    (("and", ("is", 0), ("many", 1)), ("or", ("is", 0), ("many", 3))),
    (("or", ("many", 0), ("is", 1)), ("and", ("many", 4), ("is", 1))),
    (("alike", ("is", 0), ("many", 3)), ("not", ("alike", ("is", 0), ("many", 1)))),
    (("says", 1, ("is", 0)), ("not", ("says", 1, ("is", 0)))),
    (("says", 2, ("many", 0)), ("not", ("says", 2, ("many", 4)))),
    (
        ("says", 0, ("says", 1, ("and", ("is", 2), ("many", 7)))),
        ("not", ("says", 0, ("not", ("says", 1, ("or", ("is", 2), ("many", 0)))))),
    ),
    (
        ("and", ("not", ("or", ("is", 0), ("is", 1))), ("alike", ("many", 1), ("not", ("many", 2)))),
        ("or", ("not", ("and", ("is", 0), ("is", 1))), ("not", ("alike", ("many", 3), ("not", ("many", 2))))),
    ),
)


class TurnedTest(unittest.TestCase):
    def assert_turned(self, hall):
        found = turned(hall)
        self.assertIs(is_hall(found), True, hall)
        for world in every_world(hall[0]):
            self.assertEqual(fits(hall, world), fits(found, exchanged(world)), hall)
        self.assertEqual(fitting(found), tuple(sorted(exchanged(world) for world in fitting(hall))), hall)
        twice = turned(found)
        self.assertIs(is_hall(twice), True, hall)
        self.assertEqual(worlds(twice), worlds(hall), hall)

    def test_each_kind_of_thing(self):
        for thing, expected in TURNED:
            for k in range(3):
                with self.subTest(thing=thing, k=k):
                    self.assertEqual(repr(turned((3, ((k, thing),)))), repr((3, ((k, expected),))))
                    self.assert_turned((3, ((k, thing),)))

    def test_many_among_each_number_of_guests(self):
        for many in range(1, 7):
            for n in range(8):
                with self.subTest(many=many, n=n):
                    hall = (many, ((0, ("many", n)),))
                    expected = many + 1 - n if n <= many + 1 else 0
                    self.assertEqual(turned(hall), (many, ((0, ("many", expected)),)))
                    self.assert_turned(hall)

    def test_many_beyond_the_guests(self):
        self.assertEqual(turned((6, ((0, ("many", 0)),))), (6, ((0, ("many", 7)),)))
        self.assertEqual(turned((6, ((0, ("many", 7)),))), (6, ((0, ("many", 0)),)))
        self.assertEqual(turned((1, ((0, ("many", 3)),))), (1, ((0, ("many", 0)),)))
        self.assertEqual(turned((1, ((0, ("many", 7)),))), (1, ((0, ("many", 0)),)))

    def test_all_sayings_in_their_order(self):
        sayings = tuple((n % 3, thing) for n, (thing, expected) in enumerate(TURNED[:12]))
        expected = tuple((n % 3, expected) for n, (thing, expected) in enumerate(TURNED[:12]))
        self.assertEqual(turned((3, sayings)), (3, expected))

    def test_no_saying(self):
        for many in range(1, 7):
            self.assertEqual(turned((many, ())), (many, ()))

    def test_many_halls(self):
        for most in (1, 3, 12):
            for hall in picked_halls(50 + most, 60, most_sayings=most):
                self.assert_turned(hall)

    def test_every_small_hall(self):
        for hall in small_halls():
            self.assert_turned(hall)

    def test_thirty_deep(self):
        for thing, text in WRITINGS:
            hall = (2, ((0, nested(thing, 30)), (1, nested(thing, 29))))
            self.assert_turned(hall)

    def test_arguments_by_name(self):
        self.assertEqual(turned(hall=(1, ())), (1, ()))


class RenamedTest(unittest.TestCase):
    def assert_renamed(self, hall, names):
        found = renamed(hall, names)
        self.assertIs(is_hall(found), True)
        expected = []
        for world in fitting(hall):
            moved = [None] * hall[0]
            for k, number in enumerate(world):
                moved[names[k]] = number
            expected.append(tuple(moved))
        self.assertEqual(worlds(found), tuple(sorted(expected)), (hall, names))
        # Back under the old names it is the same hall.
        back = tuple(names.index(k) for k in range(hall[0]))
        self.assertEqual(renamed(found, back), hall)

    def test_each_kind_of_thing(self):
        names = (2, 0, 1)
        for thing, expected in (
            (("is", 0), ("is", 2)),
            (("is", 1), ("is", 0)),
            (("is", 2), ("is", 1)),
            (("many", 0), ("many", 0)),
            (("many", 1), ("many", 1)),
            (("many", 7), ("many", 7)),
            (("not", ("is", 0)), ("not", ("is", 2))),
            (("and", ("is", 0), ("is", 1)), ("and", ("is", 2), ("is", 0))),
            (("or", ("is", 2), ("many", 2)), ("or", ("is", 1), ("many", 2))),
            (("alike", ("is", 1), ("is", 2)), ("alike", ("is", 0), ("is", 1))),
            (("says", 0, ("is", 1)), ("says", 2, ("is", 0))),
            (("says", 2, ("says", 1, ("many", 1))), ("says", 1, ("says", 0, ("many", 1)))),
        ):
            for k in range(3):
                with self.subTest(thing=thing, k=k):
                    found = renamed((3, ((k, thing),)), names)
                    self.assertEqual(repr(found), repr((3, ((names[k], expected),))))

    def test_all_sayings_in_their_order(self):
        sayings = ((0, ("is", 1)), (1, ("is", 0)), (0, ("many", 2)), (1, ("says", 0, ("is", 0))))
        expected = ((1, ("is", 0)), (0, ("is", 1)), (1, ("many", 2)), (0, ("says", 1, ("is", 1))))
        self.assertEqual(renamed((2, sayings), (1, 0)), (2, expected))

    def test_the_same_names(self):
        for hall in picked_halls(60, 30):
            self.assertEqual(renamed(hall, tuple(range(hall[0]))), hall)

    def test_all_names_of_some_halls(self):
        for hall in picked_halls(61, 20, most_sayings=3, most_guests=4):
            for names in itertools.permutations(range(hall[0])):
                self.assert_renamed(hall, names)

    def test_names_of_many_halls(self):
        for hall in picked_halls(62, 120, most_sayings=4):
            many = hall[0]
            for turn in range(1, many):
                self.assert_renamed(hall, tuple((k + turn) % many for k in range(many)))
            self.assert_renamed(hall, tuple(reversed(range(many))))

    def test_thirty_deep(self):
        for thing, text in WRITINGS:
            self.assert_renamed((2, ((0, nested(thing, 30)),)), (1, 0))

    def test_arguments_by_name(self):
        self.assertEqual(renamed(hall=(2, ((0, ("is", 0)),)), names=(1, 0)), (2, ((1, ("is", 1)),)))


if __name__ == "__main__":
    unittest.main()

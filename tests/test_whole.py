"""What the document promises over the whole program."""

import unittest

from halls import ALIKE_WORDS, Picker, picked_halls, picked_saying
from knavehall.asking import answer, least, plan, walked
from knavehall.reading import read
from knavehall.sayings import is_hall, is_thing
from knavehall.trees import core, shows, tree_of
from knavehall.turning import renamed, turned
from knavehall.worlds import fits, known, so, worlds
from knavehall.writing import written


class AlikeTest(unittest.TestCase):
    def test_sayings_that_only_tell_who_is_alike_leave_no_world_or_1_2_4_8_and_so_on(self):
        numbers = set()
        for most in (2, 4, 12):
            for hall in picked_halls(70 + most, 240, most_sayings=most, words=ALIKE_WORDS):
                found = len(worlds(hall))
                self.assertIn(found, (0, 1, 2, 4, 8, 16, 32, 64), hall)
                numbers.add(found)
        self.assertTrue({0, 2, 4, 8, 16, 32, 64} <= numbers, numbers)

    def test_one_world(self):
        # A guest who says it would say a thing tells that it is so.
        sayings = tuple((0, ("says", 0, ("is", k))) for k in range(4))
        for many in range(1, 5):
            self.assertEqual(worlds((many, sayings[:many])), ((1,) * many,))
            self.assertEqual(worlds((many, sayings[:many - 1])), ((1,) * (many - 1) + (0,), (1,) * many))

    def test_other_sayings_may_leave_other_numbers(self):
        self.assertEqual(len(worlds((2, ((0, ("says", 0, ("many", 1))),)))), 3)


class MoreSayingsTest(unittest.TestCase):
    def test_with_a_saying_more_no_other_world_fits(self):
        picker = Picker(80)
        fewer = 0
        for hall in picked_halls(81, 240, most_sayings=11):
            many, sayings = hall
            more = picked_saying(picker, many, 3)
            for place in (0, len(sayings) // 2, len(sayings)):
                found = worlds((many, sayings[:place] + (more,) + sayings[place:]))
                self.assertTrue(set(found) <= set(worlds(hall)), (hall, more))
                fewer += len(found) < len(worlds(hall))
        self.assertGreater(fewer, 30)

    def test_from_no_saying_to_twelve(self):
        for hall in picked_halls(82, 60):
            many, sayings = hall
            before = worlds((many, ()))
            for number in range(1, len(sayings) + 1):
                after = worlds((many, sayings[:number]))
                self.assertTrue(set(after) <= set(before), hall)
                before = after

    def test_the_order_and_the_number_of_times_do_not_matter(self):
        for hall in picked_halls(83, 60, most_sayings=6):
            many, sayings = hall
            self.assertEqual(worlds((many, sayings[::-1])), worlds(hall))
            self.assertEqual(worlds((many, sayings + sayings)), worlds(hall))


class OtherNumbersTest(unittest.TestCase):
    def test_other_numbers_of_guests_change_nothing(self):
        for hall in picked_halls(84, 120, most_sayings=4):
            many = hall[0]
            names = tuple((k * 5 + 1) % many if many == 6 else many - 1 - k for k in range(many))
            other = renamed(hall, names)
            self.assertEqual(len(worlds(other)), len(worlds(hall)))
            if worlds(hall):
                self.assertEqual([known(other)[names[k]] for k in range(many)], list(known(hall)))
                questions = tuple((k, ("says", k, ("is", k))) for k in range(many))
                self.assertEqual(least(other, questions), least(hall, questions))
            else:
                self.assertIsNotNone(tree_of(other, (None,) * many))
                self.assertIsNotNone(core(other))


class NothingChangesTest(unittest.TestCase):
    def answers(self, hall):
        """What every function tells of a hall."""
        many, sayings = hall
        nothing = (None,) * many
        knaves = (0,) * many
        questions = tuple((k, ("says", k, ("is", k))) for k in range(many))
        told = [is_hall(hall), worlds(hall), fits(hall, knaves), core(hall), tree_of(hall, nothing), turned(hall)]
        told += [shows(hall, nothing, told[4]), renamed(hall, tuple(reversed(range(many))))]
        if told[1]:
            told += [known(hall), plan(hall, questions), least(hall, questions)]
            told += [walked(told[-2], questions, world) for world in told[1]]
        for k, thing in sayings:
            told += [so(thing, knaves), answer(knaves, (k, thing)), is_thing(thing, many)]
            told += [written(thing), read(written(thing), many)]
        return told

    def test_asked_again_the_same_is_told(self):
        halls = picked_halls(90, 36, most_sayings=5)
        first = [self.answers(hall) for hall in halls]
        # In another order: nothing is kept from what was asked before.
        again = [self.answers(hall) for hall in reversed(halls)]
        self.assertEqual(repr(first), repr(again[::-1]))
        self.assertEqual(repr(halls), repr(picked_halls(90, 36, most_sayings=5)))

    def test_lists_stand_nowhere(self):
        for hall in picked_halls(91, 60, most_sayings=5):
            for told in self.answers(hall):
                self.assert_no_list(told)

    def assert_no_list(self, told):
        self.assertIn(type(told), (tuple, str, int, bool, type(None)))
        if isinstance(told, tuple):
            for part in told:
                self.assert_no_list(part)


if __name__ == "__main__":
    unittest.main()

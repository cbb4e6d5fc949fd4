import copy
import itertools
import unittest

from halls import LIAR, Picker, every_world, fitting, is_so, picked_halls, small_halls
from knavehall.trees import core, shows, tree_of
from knavehall.worlds import known, worlds


def guests_named(thing, many):
    """The guests of whom something must be assumed before a saying of the thing can clash."""
    if thing[0] == "many":
        return set(range(many))
    named = {thing[1]} if thing[0] in ("is", "says") else set()
    for part in thing[1:]:
        if isinstance(part, tuple):
            named |= guests_named(part, many)
    return named


def as_assumed(world, assumed):
    return all(number in (None, world[k]) for k, number in enumerate(assumed))


def none_fits(hall, assumed):
    return not any(as_assumed(world, assumed) for world in fitting(hall))


def is_shown(hall, assumed, tree):
    """What the document says of a tree whose parts are of the right kinds."""
    many, sayings = hall
    if tree[0] == "clash":
        speaker, said = sayings[tree[1]]
        named = guests_named(said, many) | {speaker}
        if any(assumed[k] is None for k in named):
            return False
        return not is_so(("says", speaker, said), [0 if number is None else number for number in assumed])
    k, one, other = tree[1:]
    if assumed[k] is not None:
        return False
    knight = assumed[:k] + (1,) + assumed[k + 1:]
    knave = assumed[:k] + (0,) + assumed[k + 1:]
    return is_shown(hall, knight, one) and is_shown(hall, knave, other)


def every_assumed(many):
    return tuple(itertools.product((None, 0, 1), repeat=many))


def some_assumed(picker, many):
    """Nothing assumed, all, and some."""
    found = [(None,) * many, tuple(picker.below(2) for k in range(many))]
    for time in range(3):
        found.append(tuple(picker.of((None, 0, 1)) for k in range(many)))
    return found


def all_clashes(hall):
    return [("clash", n) for n in range(len(hall[1]))]


# Guest 0 says that guest 1 is a knight, guest 1 that guest 0 is a knave: no world fits.
QUARREL = (2, ((0, ("is", 1)), (1, ("not", ("is", 0)))))
QUARREL_TREE = (
    "case",
    0,
    ("case", 1, ("clash", 1), ("clash", 0)),
    ("case", 1, ("clash", 0), ("clash", 1)),
)
NOTHING = (None, None)

# No trees, among two guests and two sayings.
NO_TREES = (
    None,
    True,
    False,
    0,
    1,
    -1,
    10 ** 30,
    "",
    "clash",
    "case",
    "cl",
    "clash 0",
    (),
    [],
    [[]],
    ((),),
    # lists in the place of tuples
    ["clash", 0],
    ["clash", 1],
    ["case", 0, ("clash", 0), ("clash", 1)],
    # too short, too long
    ("clash",),
    ("clash", 0, 0),
    ("clash", 0, None),
    ("clash", 0, ("clash", 0)),
    ("clash", 0, ("clash", 0), ("clash", 0)),
    ("case",),
    ("case", 0),
    ("case", 0, ("clash", 0)),
    ("case", 0, ("clash", 0), ("clash", 0), ("clash", 0)),
    ("case", 0, ("clash", 0), ("clash", 0), None),
    # other words
    ("Clash", 0),
    ("CLASH", 0),
    ("clash ", 0),
    ("", 0),
    ("world", 0),
    ("is", 0),
    ("case", 1),
    ("clash", 0, ("clash", 1), ("clash", 1)),
    ("cases", 0, ("clash", 0), ("clash", 0)),
    # a list, a number and others as the first part
    (["clash"], 0),
    ([], 0),
    (["case"], 0, ("clash", 0), ("clash", 0)),
    (("clash",), 0),
    (0, 0),
    (1, 1),
    (None, 0),
    (True, 0),
    (0, "clash"),
    (("clash", 0),),
    # sayings that are not there
    ("clash", -1),
    ("clash", -2),
    ("clash", 2),
    ("clash", 12),
    ("clash", 10 ** 30),
    # other things in the place of a saying's number
    ("clash", True),
    ("clash", False),
    ("clash", None),
    ("clash", "0"),
    ("clash", ""),
    ("clash", (0,)),
    ("clash", [0]),
    ("clash", ()),
    ("clash", []),
    ("clash", ("clash", 0)),
)


class ClashTest(unittest.TestCase):
    def test_clashes_that_are_there(self):
        for hall, assumed, n in (
            (QUARREL, (1, 0), 0),
            (QUARREL, (0, 1), 0),
            (QUARREL, (1, 1), 1),
            (QUARREL, (0, 0), 1),
            ((1, (LIAR,)), (1,), 0),
            ((1, (LIAR,)), (0,), 0),
            ((3, ((2, ("says", 1, ("is", 0))),)), (0, 0, 0), 0),
            ((3, ((0, ("many", 2)),)), (1, 0, 0), 0),
            ((3, ((0, ("many", 2)),)), (0, 1, 1), 0),
        ):
            with self.subTest(hall=hall, assumed=assumed, n=n):
                self.assertIs(shows(hall, assumed, ("clash", n)), True)

    def test_sayings_that_fit(self):
        for assumed, n in (((1, 1), 0), ((0, 0), 0), ((1, 0), 1), ((0, 1), 1)):
            with self.subTest(assumed=assumed, n=n):
                self.assertIs(shows(QUARREL, assumed, ("clash", n)), False)

    def test_nothing_assumed_of_the_speaker(self):
        hall = (2, ((0, ("is", 1)), (0, LIAR[1])))
        for number in (0, 1):
            self.assertIs(shows(hall, (None, number), ("clash", 0)), False)
            self.assertIs(shows(hall, (None, number), ("clash", 1)), False)
            self.assertIs(shows(hall, (number, 1 - number), ("clash", 0)), True)
            self.assertIs(shows(hall, (number, None), ("clash", 1)), True)

    def test_the_speaker_who_is_named_nowhere_else(self):
        # A speaker of whom nothing is assumed, though the thing that it says is settled.
        hall = (3, ((2, ("and", ("is", 0), ("is", 1))),))
        for assumed in ((1, 1, None), (0, 0, None)):
            self.assertIs(shows(hall, assumed, ("clash", 0)), False)
        self.assertIs(shows(hall, (1, 1, 0), ("clash", 0)), True)
        self.assertIs(shows(hall, (0, 1, 1), ("clash", 0)), True)

    def test_nothing_assumed_of_a_guest_named_by_is(self):
        # The first part settles the thing, but the guest that the second one names counts all the same.
        for said in (
            ("and", ("many", 7), ("is", 1)),
            ("and", ("not", ("is", 0)), ("is", 1)),
            ("and", ("is", 1), ("not", ("is", 0))),
            ("and", ("alike", ("is", 1), ("is", 1)), ("not", ("is", 0))),
            ("and", ("not", ("is", 0)), ("not", ("is", 1))),
            ("and", ("not", ("is", 0)), ("or", ("is", 0), ("is", 1))),
        ):
            hall = (2, ((0, said),))
            with self.subTest(said=said):
                self.assertIs(shows(hall, (1, None), ("clash", 0)), False)
                for number in (0, 1):
                    self.assertIs(shows(hall, (1, number), ("clash", 0)), True)

    def test_nothing_assumed_of_a_guest_named_by_says(self):
        for said in (
            ("and", ("not", ("is", 0)), ("says", 1, ("is", 0))),
            ("and", ("says", 1, ("is", 0)), ("not", ("is", 0))),
            ("not", ("says", 1, ("says", 1, ("is", 0)))),
            ("says", 1, ("not", ("is", 1))),
        ):
            hall = (2, ((0, said),))
            with self.subTest(said=said):
                self.assertIs(shows(hall, (1, None), ("clash", 0)), False)
                for number in (0, 1):
                    self.assertIs(shows(hall, (1, number), ("clash", 0)), True)

    def test_guests_that_the_saying_does_not_name_need_not_be_assumed(self):
        hall = (6, ((1, ("says", 3, ("is", 4))),))
        self.assertIs(shows(hall, (None, 1, None, 1, 0, None), ("clash", 0)), True)
        self.assertIs(shows(hall, (None, 1, None, 1, 1, None), ("clash", 0)), False)
        for k in (1, 3, 4):
            assumed = [None, 1, None, 1, 0, None]
            assumed[k] = None
            self.assertIs(shows(hall, tuple(assumed), ("clash", 0)), False)

    def test_many_asks_for_all_guests(self):
        for said in (("many", 7), ("and", ("is", 0), ("many", 7)), ("not", ("many", 0)), ("says", 0, ("many", 7))):
            for many in range(1, 7):
                hall = (many, ((0, said),))
                self.assertIs(shows(hall, (1,) * many, ("clash", 0)), True)
                for k in range(many):
                    assumed = (1,) * k + (None,) + (1,) * (many - k - 1)
                    with self.subTest(said=said, assumed=assumed):
                        self.assertIs(shows(hall, assumed, ("clash", 0)), False)

    def test_a_saying_that_names_its_speaker_alone(self):
        for assumed in ((1, None), (0, None), (1, 0), (0, 1)):
            self.assertIs(shows((2, (LIAR,)), assumed, ("clash", 0)), True)
        for assumed in ((None, None), (None, 1), (None, 0)):
            self.assertIs(shows((2, (LIAR,)), assumed, ("clash", 0)), False)

    def test_the_last_of_twelve(self):
        hall = (1, ((0, ("is", 0)),) * 11 + (LIAR,))
        for n in range(-3, 15):
            self.assertIs(shows(hall, (1,), ("clash", n)), n == 11)

    def test_no_saying(self):
        for n in (-1, 0, 1):
            self.assertIs(shows((1, ()), (1,), ("clash", n)), False)


class CaseTest(unittest.TestCase):
    def test_cases_that_show(self):
        self.assertIs(shows(QUARREL, NOTHING, QUARREL_TREE), True)
        self.assertIs(shows(QUARREL, (1, None), QUARREL_TREE[2]), True)
        self.assertIs(shows(QUARREL, (0, None), QUARREL_TREE[3]), True)
        self.assertIs(shows((2, (LIAR,)), NOTHING, ("case", 0, ("clash", 0), ("clash", 0))), True)

    def test_a_case_that_is_not_needed(self):
        tree = ("case", 1, ("clash", 0), ("clash", 0))
        self.assertIs(shows((2, (LIAR,)), (1, None), tree), True)
        self.assertIs(shows((2, (LIAR,)), (None, None), tree), False)

    def test_a_case_of_a_guest_of_which_something_is_assumed(self):
        tree = ("case", 0, ("clash", 0), ("clash", 0))
        self.assertIs(shows((1, (LIAR,)), (None,), tree), True)
        for number in (0, 1):
            self.assertIs(shows((1, (LIAR,)), (number,), tree), False)
            self.assertIs(shows(QUARREL, (number, None), QUARREL_TREE), False)
        twice = ("case", 0, tree, tree)
        self.assertIs(shows((1, (LIAR,)), (None,), twice), False)
        self.assertIs(shows((1, (LIAR,)), (None,), ("case", 0, tree, ("clash", 0))), False)
        self.assertIs(shows((1, (LIAR,)), (None,), ("case", 0, ("clash", 0), tree)), False)

    def test_one_or_other_shows_nothing(self):
        # Guest 0 says that guest 1 is a knight: with guest 0 a knight only guest 1 a knave clashes.
        hall = (2, ((0, ("is", 1)),))
        self.assertIs(shows(hall, (1, None), ("case", 1, ("clash", 0), ("clash", 0))), False)
        self.assertIs(shows(hall, (0, None), ("case", 1, ("clash", 0), ("clash", 0))), False)
        for one, other in ((None, ("clash", 0)), (("clash", 0), None), ((), ("clash", 0)), (("clash", 0), ())):
            with self.subTest(one=one, other=other):
                self.assertIs(shows((1, (LIAR,)), (None,), ("case", 0, one, other)), False)

    def test_exchanged(self):
        one, other = QUARREL_TREE[2:]
        self.assertIs(shows(QUARREL, NOTHING, ("case", 0, other, one)), False)
        self.assertIs(shows(QUARREL, (1, None), ("case", 1, ("clash", 1), ("clash", 0))), True)
        self.assertIs(shows(QUARREL, (1, None), ("case", 1, ("clash", 0), ("clash", 1))), False)

    def test_guests_that_are_not_there(self):
        hall = (2, (LIAR,))
        for k in (-1, -2, 2, 3, 6, 10 ** 30, True, False, None, "0", "", (0,), [0], (), [], ("clash", 0)):
            tree = ("case", k, ("clash", 0), ("clash", 0))
            with self.subTest(k=k):
                self.assertIs(shows(hall, NOTHING, tree), False)
                self.assertIs(shows(hall, (1, None), tree), False)
                self.assertIs(shows(hall, NOTHING, ("case", 0, tree, ("clash", 0))), False)

    def test_truths_in_the_place_of_guests(self):
        # Both are equal to the number of a guest by whom the case would show it.
        self.assertIs(shows((2, (LIAR,)), NOTHING, ("case", 0, ("clash", 0), ("clash", 0))), True)
        self.assertIs(shows((2, (LIAR,)), NOTHING, ("case", False, ("clash", 0), ("clash", 0))), False)
        self.assertIs(shows((2, (LIAR,)), (1, None), ("case", 1, ("clash", 0), ("clash", 0))), True)
        self.assertIs(shows((2, (LIAR,)), (1, None), ("case", True, ("clash", 0), ("clash", 0))), False)


class NoTreeTest(unittest.TestCase):
    def test_at_the_top(self):
        hall = (2, (LIAR, LIAR))
        for tree in NO_TREES:
            for assumed in every_assumed(2):
                with self.subTest(tree=tree, assumed=assumed):
                    self.assertIs(shows(hall, assumed, tree), False)

    def test_within_a_case(self):
        hall = (2, (LIAR, LIAR))
        good = ("clash", 0)
        self.assertIs(shows(hall, NOTHING, ("case", 0, good, good)), True)
        for tree in NO_TREES:
            for whole in (
                ("case", 0, tree, good),
                ("case", 0, good, tree),
                ("case", 0, tree, tree),
                ("case", 1, ("case", 0, tree, good), ("case", 0, good, good)),
                ("case", 1, ("case", 0, good, good), ("case", 0, good, tree)),
            ):
                with self.subTest(tree=whole):
                    self.assertIs(shows(hall, NOTHING, whole), False)

    def test_lists_of_what_would_be_a_tree(self):
        hall = (1, (LIAR,))
        good = ("clash", 0)
        for tree in (["case", 0, good, good], ("case", 0, ["clash", 0], good), ("case", 0, good, ["clash", 0])):
            with self.subTest(tree=tree):
                before = copy.deepcopy(tree)
                self.assertIs(shows(hall, (None,), tree), False)
                self.assertEqual(tree, before)

    def test_thirty_deep(self):
        for wrapping in (
            lambda tree: [tree],
            lambda tree: (tree,),
            lambda tree: ("case", 0, tree, ("clash", 0)),
            lambda tree: ("case", 0, ("clash", 0), tree),
            lambda tree: ("clash", tree),
            lambda tree: (tree, tree),
        ):
            tree = ("clash", 0)
            for step in range(30):
                tree = wrapping(tree)
            for many in (1, 6):
                self.assertIs(shows((many, (LIAR,)), (None,) * many, tree), False)
        tree = ("clash", 0)
        for step in range(30):
            tree = ("case", step % 6, tree, ("clash", 0))
        self.assertIs(shows((6, (LIAR,)), (None,) * 6, tree), False)


class ShowsOverManyTest(unittest.TestCase):
    def trees(self, hall):
        """Every tree of one case of each guest at the most, of two guests and two sayings."""
        clashes = all_clashes(hall)
        shallow = clashes + [("case", k, a, b) for k in range(2) for a in clashes for b in clashes]
        return shallow + [("case", k, a, b) for k in range(2) for a in shallow[2:] for b in shallow[2:]]

    def test_every_small_tree(self):
        shown = 0
        for hall in (
            QUARREL,
            (2, ((0, ("is", 1)), (1, ("is", 0)))),
            (2, (LIAR, (1, ("many", 1)))),
            (2, ((0, ("says", 1, ("is", 0))), (1, ("alike", ("is", 0), ("many", 2))))),
            (2, ((1, ("many", 7)), (0, ("or", ("is", 1), ("is", 0))))),
        ):
            for tree in self.trees(hall):
                for assumed in every_assumed(2):
                    expected = is_shown(hall, assumed, tree)
                    self.assertIs(shows(hall, assumed, tree), expected, (hall, assumed, tree))
                    shown += expected
                    if expected:
                        self.assertTrue(none_fits(hall, assumed))
        self.assertGreater(shown, 30)

    def test_clashes_of_many_halls(self):
        picker = Picker(5)
        shown = 0
        for hall in picked_halls(6, 120):
            for assumed in some_assumed(picker, hall[0]):
                for tree in all_clashes(hall):
                    expected = is_shown(hall, assumed, tree)
                    self.assertIs(shows(hall, assumed, tree), expected, (hall, assumed, tree))
                    shown += expected
        self.assertGreater(shown, 50)

    def test_arguments_by_name(self):
        self.assertIs(shows(hall=(1, (LIAR,)), assumed=(1,), tree=("clash", 0)), True)


class TreeOfTest(unittest.TestCase):
    def assert_tree(self, hall, assumed):
        """Tells whether a tree is there."""
        tree = tree_of(hall, assumed)
        if none_fits(hall, assumed):
            self.assertIs(shows(hall, assumed, tree), True, (hall, assumed))
            self.assertTrue(is_shown(hall, assumed, tree), (hall, assumed))
        else:
            self.assertIsNone(tree, (hall, assumed))
        return tree is not None

    def test_nothing_assumed(self):
        self.assertTrue(self.assert_tree(QUARREL, NOTHING))
        self.assertTrue(self.assert_tree((1, (LIAR,)), (None,)))
        self.assertTrue(self.assert_tree((6, ((5, ("not", ("is", 5))),)), (None,) * 6))
        for many in range(1, 7):
            self.assertFalse(self.assert_tree((many, ()), (None,) * many))

    def test_some_assumed(self):
        hall = (3, ((0, ("not", ("many", 1))),))
        self.assertTrue(self.assert_tree(hall, (1, None, None)))
        self.assertTrue(self.assert_tree(hall, (None, 0, 0)))
        self.assertFalse(self.assert_tree(hall, (None, 0, None)))
        self.assertFalse(self.assert_tree(hall, (0, None, None)))

    def test_all_assumed(self):
        for world in every_world(2):
            for hall in (QUARREL, (2, ()), (2, ((0, ("is", 1)),))):
                self.assertEqual(self.assert_tree(hall, world), world not in fitting(hall))

    def test_every_small_hall(self):
        for hall in small_halls():
            self.assert_tree(hall, NOTHING)
            self.assert_tree(hall, (1, None))
            self.assert_tree(hall, (None, 0))

    def test_many_halls_and_assumptions(self):
        picker = Picker(7)
        found = []
        for most in (1, 2, 5, 12):
            for hall in picked_halls(30 + most, 60, most_sayings=most):
                for assumed in some_assumed(picker, hall[0]):
                    found.append(self.assert_tree(hall, assumed))
        self.assertGreater(found.count(True), 200)
        self.assertGreater(found.count(False), 200)

    def test_all_assumptions_of_some_halls(self):
        for hall in picked_halls(8, 24, most_sayings=4, most_guests=4):
            for assumed in every_assumed(hall[0]):
                self.assert_tree(hall, assumed)

    def test_either_a_world_fits_or_a_tree_shows_that_none_does(self):
        both = set()
        for hall in picked_halls(9, 200, most_sayings=6):
            tree = tree_of(hall, (None,) * hall[0])
            self.assertEqual(len(worlds(hall)) > 0, tree is None)
            both.add(tree is None)
        self.assertEqual(both, {True, False})

    def test_known_just_if_a_tree_shows_that_it_can_not_be_the_other_thing(self):
        numbers = set()
        for hall in picked_halls(10, 300, most_sayings=4):
            if not worlds(hall):
                continue
            for k, number in enumerate(known(hall)):
                nothing = (None,) * hall[0]
                not_knight = tree_of(hall, nothing[:k] + (1,) + nothing[k + 1:])
                not_knave = tree_of(hall, nothing[:k] + (0,) + nothing[k + 1:])
                self.assertEqual(number == 1, not_knave is not None)
                self.assertEqual(number == 0, not_knight is not None)
                numbers.add(number)
        self.assertEqual(numbers, {0, 1, None})

    def test_numbers_somewhat_beyond_the_bound_are_not_refused(self):
        hall = (7, ((0, ("is", 6)),) * 6 + ((6, ("many", 7)),) * 6 + ((6, ("not", ("many", 7))),))
        self.assertTrue(self.assert_tree(hall, (None,) * 7))

    def test_arguments_by_name(self):
        self.assertEqual(tree_of(hall=(1, (LIAR,)), assumed=(1,)), ("clash", 0))


class CoreTest(unittest.TestCase):
    def assert_core(self, hall, possible=None):
        many, sayings = hall
        found = core(hall)
        if fitting(hall):
            self.assertIsNone(found, hall)
            return None
        self.assertIs(type(found), tuple, hall)
        self.assertEqual({type(n) for n in found}, {int}, hall)
        self.assertEqual(list(found), sorted(set(found)), hall)
        self.assertTrue(set(found) <= set(range(len(sayings))), hall)
        self.assertEqual(fitting((many, tuple(sayings[n] for n in found))), (), hall)
        for left_out in found:
            rest = tuple(sayings[n] for n in found if n != left_out)
            self.assertNotEqual(fitting((many, rest)), (), (hall, found, left_out))
        if possible is not None:
            self.assertIn(found, possible)
        return found

    def test_some_world_fits(self):
        for many in range(1, 7):
            self.assertIsNone(core((many, ())))
            self.assertIsNone(core((many, ((0, ("is", 0)),) * 12)))
        self.assertIsNone(core((2, ((0, ("is", 1)),))))

    def test_all_are_needed(self):
        self.assert_core((1, (LIAR,)), ((0,),))
        self.assert_core(QUARREL, ((0, 1),))
        ring = tuple((k, ("is", k + 1)) for k in range(5)) + ((5, ("not", ("is", 0))),)
        self.assert_core((6, ring), ((0, 1, 2, 3, 4, 5),))

    def test_sayings_that_are_not_needed(self):
        idle = (1, ("is", 1))
        first, second = QUARREL[1]
        for sayings, expected in (
            ((idle, first, second), (1, 2)),
            ((first, idle, second), (0, 2)),
            ((first, second, idle), (0, 1)),
            ((idle, first, idle, second, idle), (1, 3)),
            ((idle,) * 5 + (second,) + (idle,) * 3 + (first,) + (idle,) * 2, (5, 9)),
            ((idle, LIAR, idle), (1,)),
            ((idle, idle, LIAR), (2,)),
            ((LIAR, idle), (0,)),
        ):
            with self.subTest(sayings=sayings):
                self.assert_core((2, sayings), (expected,))

    def test_a_saying_said_twice(self):
        first, second = QUARREL[1]
        self.assert_core((1, (LIAR, LIAR)), ((0,), (1,)))
        self.assert_core((2, (first, first, second)), ((0, 2), (1, 2)))
        self.assert_core((2, (first, second, first)), ((0, 1), (1, 2)))
        self.assert_core((2, (first, second, second)), ((0, 1), (0, 2)))
        self.assert_core((2, (second, first, second, first)), ((0, 1), (0, 3), (1, 2), (2, 3)))

    def test_one_that_can_not_be_said_among_others_that_can_not_stand_together(self):
        self.assert_core((2, QUARREL[1] + (LIAR,)), ((0, 1), (2,)))
        self.assert_core((2, (LIAR,) + QUARREL[1]), ((0,), (1, 2)))

    def test_many_halls(self):
        lengths = set()
        for most in (2, 4, 8, 12):
            for hall in picked_halls(40 + most, 90, most_sayings=most):
                found = self.assert_core(hall)
                lengths.add(None if found is None else len(found))
        self.assertTrue({None, 1, 2, 3, 4} <= lengths, lengths)

    def test_every_small_hall(self):
        for hall in small_halls():
            self.assert_core(hall)

    def test_arguments_by_name(self):
        self.assertIsNone(core(hall=(1, ())))


if __name__ == "__main__":
    unittest.main()

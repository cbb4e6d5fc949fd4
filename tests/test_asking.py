import itertools
import unittest

from examples import all_things
from halls import SO_IN, Picker, every_world, fitting, is_so, picked_halls, picked_saying
from knavehall.asking import answer, least, plan, walked

# Asked of a knight or a knave alike, the answer tells whether the guest itself is a knight.
ASKS_GUEST = [(k, ("says", k, ("is", k))) for k in range(8)]


def says_yes(question, world):
    return is_so(("says", question[0], question[1]), world)


def told(tree, questions, world):
    """What a plan tells in a world, and after how many questions."""
    if tree[0] == "world":
        return tree[1], 0
    found, asked = told(tree[2] if says_yes(questions[tree[1]], world) else tree[3], questions, world)
    return found, asked + 1


def all_plans(fit, questions, depth):
    """Every plan that tells a world of these after so many questions at the most."""
    plans = [("world", world) for world in fit]
    if depth > 0:
        shorter = all_plans(fit, questions, depth - 1)
        plans += [("ask", n, yes, no) for n in range(len(questions)) for yes in shorter for no in shorter]
    return plans


def tells_all(tree, questions, fit):
    return all(told(tree, questions, world)[0] == world for world in fit)


def can_be_told_apart(questions, fit):
    rows = [tuple(says_yes(question, world) for question in questions) for world in fit]
    return len(set(rows)) == len(rows)


def can_be_done(fit, questions, depth):
    """Whether some plan tells all of these worlds with so many questions at the most."""
    if len(fit) <= 1:
        return True
    if depth == 0:
        return False
    for question in questions:
        yes = [world for world in fit if says_yes(question, world)]
        no = [world for world in fit if world not in yes]
        if can_be_done(yes, questions, depth - 1) and can_be_done(no, questions, depth - 1):
            return True
    return False


class AnswerTest(unittest.TestCase):
    def assert_number(self, found, number, note=None):
        self.assertIs(type(found), int, note)
        self.assertEqual(found, number, note)

    def test_knights_tell_what_is_so_and_knaves_what_is_not(self):
        for thing, so_in in SO_IN:
            for world in every_world(3):
                for k in range(3):
                    with self.subTest(thing=thing, world=world, k=k):
                        is_thing_so = 1 if world in so_in else 0
                        expected = is_thing_so if world[k] == 1 else 1 - is_thing_so
                        self.assert_number(answer(world, (k, thing)), expected)

    def test_whether_one_is_a_knight_all_say_yes(self):
        for many in range(1, 7):
            for world in every_world(many):
                for k in range(many):
                    self.assert_number(answer(world, (k, ("is", k))), 1)
                    self.assert_number(answer(world, (k, ("not", ("is", k)))), 0)

    def test_asked_whether_it_would_say_a_thing_it_tells_whether_the_thing_is_so(self):
        for thing, so_in in SO_IN:
            for world in every_world(3):
                for k in range(3):
                    with self.subTest(thing=thing, world=world, k=k):
                        self.assert_number(answer(world, (k, ("says", k, thing))), 1 if world in so_in else 0)

    def test_every_short_question(self):
        for words in range(2, 6):
            for thing in all_things(words, 2):
                for world in every_world(2):
                    for k in range(2):
                        expected = int(is_so(thing, world) == bool(world[k]))
                        self.assert_number(answer(world, (k, thing)), expected, thing)
                        self.assert_number(answer(world, (k, ("says", k, thing))), int(is_so(thing, world)), thing)

    def test_arguments_by_name(self):
        self.assert_number(answer(world=(1,), question=(0, ("is", 0))), 1)


class WalkedTest(unittest.TestCase):
    QUESTIONS = tuple(ASKS_GUEST[:3])

    def assert_walked(self, tree, world, expected):
        found = walked(tree, self.QUESTIONS, world)
        self.assertEqual(repr(found), repr(expected))

    def test_a_world_alone(self):
        for world in every_world(3):
            self.assert_walked(("world", (1, 0, 1)), world, ((1, 0, 1), 0))
            self.assertEqual(walked(("world", (0,)), (), world), ((0,), 0))

    def test_one_question(self):
        tree = ("ask", 1, ("world", (0, 1, 0)), ("world", (0, 0, 0)))
        self.assert_walked(tree, (0, 1, 0), ((0, 1, 0), 1))
        self.assert_walked(tree, (1, 1, 1), ((0, 1, 0), 1))
        self.assert_walked(tree, (0, 0, 0), ((0, 0, 0), 1))
        self.assert_walked(tree, (1, 0, 1), ((0, 0, 0), 1))

    def test_questions_in_another_order_than_they_stand(self):
        tree = (
            "ask",
            2,
            ("world", (0, 0, 1)),
            ("ask", 0, ("ask", 1, ("world", (1, 1, 0)), ("world", (1, 0, 0))), ("world", (0, 1, 0))),
        )
        for world in every_world(3):
            if world[2] == 1:
                expected = ((0, 0, 1), 1)
            elif world[0] == 0:
                expected = ((0, 1, 0), 2)
            else:
                expected = (world, 3)
            self.assert_walked(tree, world, expected)

    def test_a_question_asked_twice_counts_twice(self):
        tree = ("ask", 0, ("ask", 0, ("world", (1, 1, 1)), ("world", (0, 0, 0))), ("world", (0, 1, 1)))
        self.assert_walked(tree, (1, 0, 0), ((1, 1, 1), 2))
        self.assert_walked(tree, (0, 0, 0), ((0, 1, 1), 1))

    def test_answers_are_those_of_knights_and_knaves(self):
        # A knave says that guest 1 is no knight, where it is one.
        questions = ((0, ("is", 1)),)
        tree = ("ask", 0, ("world", (1, 1)), ("world", (0, 1)))
        for world, expected in (((1, 1), (1, 1)), ((0, 0), (1, 1)), ((0, 1), (0, 1)), ((1, 0), (0, 1))):
            self.assertEqual(walked(tree, questions, world), (expected, 1))

    def test_arguments_by_name(self):
        self.assertEqual(walked(plan=("world", (1,)), questions=(), world=(0,)), ((1,), 0))


class PlanTest(unittest.TestCase):
    def assert_form(self, tree, questions):
        self.assertIs(type(tree), tuple)
        if len(tree) == 2:
            self.assertEqual(tree[0], "world")
            self.assertIs(type(tree[1]), tuple)
            self.assertEqual({type(number) for number in tree[1]}, {int})
        else:
            self.assertEqual(len(tree), 4)
            self.assertEqual(tree[0], "ask")
            self.assertIs(type(tree[1]), int)
            self.assertIn(tree[1], range(len(questions)))
            self.assert_form(tree[2], questions)
            self.assert_form(tree[3], questions)

    def assert_plan(self, hall, questions, expected="any"):
        """Gives how many questions it takes."""
        fit = fitting(hall)
        tree = plan(hall, questions)
        most = least(hall, questions)
        if not can_be_told_apart(questions, fit):
            self.assertIsNone(tree, (hall, questions))
            self.assertIsNone(most, (hall, questions))
        else:
            self.assert_form(tree, questions)
            for world in fit:
                self.assertEqual(walked(tree, questions, world)[0], world, (hall, questions))
                self.assertEqual(walked(tree, questions, world), told(tree, questions, world), (hall, questions))
            self.assertIs(type(most), int)
            self.assertEqual(max(walked(tree, questions, world)[1] for world in fit), most, (hall, questions))
            self.assertTrue(can_be_done(fit, questions, most), (hall, questions))
            if most > 0:
                self.assertFalse(can_be_done(fit, questions, most - 1), (hall, questions))
        if expected != "any":
            self.assertEqual(most, expected, (hall, questions))
        return most

    def test_one_world(self):
        for questions in ((), ((0, ("is", 0)),), tuple(ASKS_GUEST[:2]), tuple(ASKS_GUEST[:2]) * 3):
            hall = (2, ((0, ("not", ("many", 1))),))
            self.assert_plan(hall, questions, 0)
            self.assertEqual(plan(hall, questions), ("world", (0, 1)))

    def test_no_question(self):
        self.assert_plan((1, ()), (), None)
        self.assert_plan((2, ((0, ("is", 1)),)), (), None)

    def test_one_question_for_each_guest(self):
        for many in range(1, 7):
            self.assert_plan((many, ()), tuple(ASKS_GUEST[:many]), many)

    def test_questions_that_can_not_tell_two_worlds_apart(self):
        for many in range(2, 7):
            self.assert_plan((many, ()), tuple(ASKS_GUEST[:many - 1]), None)
            self.assert_plan((many, ()), tuple(ASKS_GUEST[1:many]), None)
        # All say yes to this, and no to that.
        idle = ((0, ("is", 0)), (1, ("not", ("is", 1))))
        self.assert_plan((2, ()), idle, None)
        self.assert_plan((2, ((0, ("is", 1)),)), idle, None)
        self.assert_plan((2, ()), idle + (ASKS_GUEST[0],) + idle, None)
        self.assert_plan((2, ()), idle + (ASKS_GUEST[0],) + idle + (ASKS_GUEST[1],), 2)

    def test_two_worlds_among_others_that_can_not_be_told_apart(self):
        questions = (ASKS_GUEST[2], (0, ("says", 0, ("many", 3))))
        self.assert_plan((3, ()), questions, None)
        self.assert_plan((3, ((2, ("many", 0)),)), questions, None)
        self.assert_plan((3, ((0, ("many", 0)), (2, ("many", 0)))), questions, 1)

    def test_a_question_that_stands_twice(self):
        once = ASKS_GUEST[0]
        self.assert_plan((1, ()), (once, once), 1)
        self.assert_plan((2, ()), (once, once), None)
        self.assert_plan((2, ()), (once, once, ASKS_GUEST[1], ASKS_GUEST[1]), 2)
        self.assert_plan((3, ()), tuple(ASKS_GUEST[:3]) * 2, 3)

    def test_the_first_question_that_splits_need_not_be_the_best(self):
        # Four worlds, of just one knight each; asked whether guest k is it, three may be asked, by halves only two.
        just_one = ("and", ("many", 1), ("not", ("many", 2)))
        hall = (5, ((4, ("many", 7)), (4, ("not", just_one))))
        self.assertEqual(len(fitting(hall)), 4)
        one_by_one = tuple((4, ("is", k)) for k in range(3))
        halves = ((4, ("or", ("is", 0), ("is", 1))), (4, ("or", ("is", 0), ("is", 2))))
        self.assert_plan(hall, one_by_one, 3)
        self.assert_plan(hall, halves, 2)
        self.assert_plan(hall, one_by_one + halves, 2)
        self.assert_plan(hall, halves + one_by_one, 2)
        self.assert_plan(hall, one_by_one + halves[:1], 2)

    def test_what_is_asked_next_may_hang_on_the_answer(self):
        # If guest 0 is a knight, guest 2 is none, else guest 1 is none: so one of the two needs not be asked.
        held = ("or", ("and", ("is", 0), ("not", ("is", 2))), ("not", ("or", ("is", 0), ("is", 1))))
        hall = (3, ((0, ("says", 0, held)),))
        self.assertEqual(fitting(hall), ((0, 0, 0), (0, 0, 1), (1, 0, 0), (1, 1, 0)))
        for questions in itertools.permutations(ASKS_GUEST[:3]):
            self.assert_plan(hall, questions, 2)
        for questions in itertools.combinations(ASKS_GUEST[:3], 2):
            self.assert_plan(hall, questions, None)

    def test_against_all_plans(self):
        lengths = set()
        things = all_things(3, 2)[:2] + all_things(4, 2)[:6] + [("is", 0), ("is", 1), ("many", 1), ("many", 2)]
        asked = [(k, a) for k in range(2) for a in things]
        for sayings in ((), ((0, ("is", 1)),), ((0, ("many", 1)),), ((1, ("is", 1)), (0, ("many", 0)))):
            hall = (2, sayings)
            fit = fitting(hall)
            for questions in itertools.product(asked, repeat=2):
                most = self.assert_plan(hall, questions)
                lengths.add(most)
                if most != 0:
                    # One question is not enough, or, where one is, none is not.
                    for tree in all_plans(fit, questions, 0 if most == 1 else 1):
                        self.assertFalse(tells_all(tree, questions, fit), (hall, questions, tree))
        self.assertEqual(lengths, {None, 1, 2})

    def test_no_plan_against_all_plans(self):
        for hall, questions in (
            ((2, ()), tuple(ASKS_GUEST[:1]) * 2),
            ((2, ((0, ("is", 1)),)), ((0, ("is", 1)), (1, ("is", 0)))),
            ((2, ((0, ("many", 1)),)), (ASKS_GUEST[0], (0, ("is", 0)))),
        ):
            fit = fitting(hall)
            self.assert_plan(hall, questions, None)
            self.assertFalse(any(tells_all(tree, questions, fit) for tree in all_plans(fit, questions, 2)))

    def test_against_all_plans_of_three_questions(self):
        just_one = ("and", ("many", 1), ("not", ("many", 2)))
        hall = (5, ((4, ("many", 7)), (4, ("not", just_one))))
        fit = fitting(hall)
        questions = tuple((4, ("is", k)) for k in range(3))
        self.assertEqual(least(hall, questions), 3)
        self.assertFalse(any(tells_all(tree, questions, fit) for tree in all_plans(fit, questions, 2)))
        self.assertTrue(tells_all(plan(hall, questions), questions, fit))

    def test_many_halls_and_questions(self):
        picker = Picker(11)
        lengths = []
        for hall in picked_halls(12, 240, most_sayings=3):
            if not fitting(hall):
                continue
            questions = tuple(picked_saying(picker, hall[0], 2) for n in range(picker.below(7)))
            lengths.append(self.assert_plan(hall, questions))
        for length in (None, 0, 1, 2, 3, 4):
            self.assertIn(length, lengths)

    def test_six_questions_that_can_tell_all(self):
        picker = Picker(13)
        lengths = []
        for hall in picked_halls(14, 120, most_sayings=3):
            if not fitting(hall):
                continue
            many = hall[0]
            questions = ASKS_GUEST[:many] + [picked_saying(picker, many, 2) for n in range(6 - many)]
            lengths.append(self.assert_plan(hall, tuple(questions)))
        self.assertNotIn(None, lengths)
        self.assertTrue({1, 2, 3, 4, 5, 6} <= set(lengths), set(lengths))

    def test_numbers_somewhat_beyond_the_bound_are_not_refused(self):
        self.assertEqual(least((7, ()), tuple(ASKS_GUEST[:7])), 7)
        self.assertEqual(least((6, ()), tuple(ASKS_GUEST[:6]) + tuple(ASKS_GUEST[:2])), 6)

    def test_arguments_by_name(self):
        self.assertEqual(plan(hall=(1, ((0, ("many", 0)),)), questions=()), ("world", (1,)))
        self.assertEqual(least(hall=(1, ((0, ("many", 0)),)), questions=()), 0)


if __name__ == "__main__":
    unittest.main()

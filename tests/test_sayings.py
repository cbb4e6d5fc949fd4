import copy
import unittest

from examples import WRAPPINGS, WRITINGS, all_things, nested
from knavehall.sayings import is_hall, is_thing

# None of these can be said among two guests.
SPOILT = (
    # guests that are not there
    ("is", 2),
    ("is", -1),
    ("is", 7),
    ("says", 2, ("is", 0)),
    ("says", -1, ("is", 0)),
    # numbers beyond 0 to 7
    ("many", 8),
    ("many", -1),
    ("many", 10 ** 30),
    # other words
    ("IS", 0),
    ("is ", 0),
    ("", 0),
    ("iff", ("is", 0), ("is", 1)),
    ("guest", 0),
    ("thing", ("is", 0)),
    ("knight", 0),
    # too few parts, too many parts
    (),
    ("is",),
    ("many",),
    ("not",),
    ("and",),
    ("and", ("is", 0)),
    ("or", ("is", 0)),
    ("alike", ("is", 0)),
    ("says",),
    ("says", 0),
    ("says", ("is", 0)),
    ("is", 0, 0),
    ("is", 0, ("is", 0)),
    ("many", 1, 1),
    ("not", ("is", 0), ("is", 0)),
    ("and", ("is", 0), ("is", 1), ("is", 0)),
    ("or", ("is", 0), ("is", 1), ("is", 0)),
    ("alike", ("is", 0), ("is", 1), ("is", 0)),
    ("says", 0, ("is", 0), ("is", 1)),
    ("says", 0, 1, ("is", 0)),
    # lists
    [],
    ["is", 0],
    ["not", ("is", 0)],
    ("is", [0]),
    ("many", []),
    ("not", ["is", 0]),
    ("says", [0], ("is", 0)),
    ("says", 0, ["is", 0]),
    (["is"], 0),
    ([], 0),
    ((["is"],), 0),
    (("is",), 0),
    (("is", 0),),
    # truths in the place of a number
    ("is", True),
    ("is", False),
    ("many", True),
    ("many", False),
    ("says", True, ("is", 0)),
    ("says", False, ("is", 0)),
    # parts of the wrong kind
    ("is", None),
    ("is", "0"),
    ("is", ("is", 0)),
    ("is", ()),
    ("many", None),
    ("many", "1"),
    ("many", ("many", 1)),
    ("not", 0),
    ("not", "is 0"),
    ("not", "is"),
    ("not", None),
    ("not", True),
    ("not", ()),
    ("and", 0, 1),
    ("says", None, ("is", 0)),
    ("says", "0", ("is", 0)),
    ("says", ("is", 0), ("is", 0)),
    ("says", ("is", 0), 0),
    ("says", 0, 0),
    # first parts that are no texts
    (None, 0),
    (True, 0),
    (0, 0),
    (0, ("is", 0)),
    # no tuples at all
    None,
    True,
    False,
    0,
    1,
    -1,
    "",
    "is",
    "is 0",
    "not",
)


class IsThingTest(unittest.TestCase):
    def test_each_kind_of_thing(self):
        for thing, text in WRITINGS:
            with self.subTest(thing=thing):
                self.assertIs(is_thing(thing, 2), True)

    def test_every_short_thing(self):
        for words in range(2, 6):
            for thing in all_things(words, 3):
                self.assertIs(is_thing(thing, 3), True, thing)

    def test_guests_are_counted_from_0_on(self):
        for many in range(1, 7):
            for k in range(-2, 9):
                with self.subTest(many=many, k=k):
                    there = 0 <= k < many
                    self.assertIs(is_thing(("is", k), many), there)
                    self.assertIs(is_thing(("says", k, ("many", 1)), many), there)
                    self.assertIs(is_thing(("not", ("is", k)), many), there)

    def test_counts_go_from_0_to_7_among_however_many_guests(self):
        for many in range(1, 7):
            for n in range(-2, 11):
                with self.subTest(many=many, n=n):
                    self.assertIs(is_thing(("many", n), many), 0 <= n <= 7)

    def test_numbers_of_guests_somewhat_beyond_the_bound_are_not_refused(self):
        self.assertIs(is_thing(("is", 6), 7), True)
        self.assertIs(is_thing(("is", 7), 7), False)
        self.assertIs(is_thing(("many", 8), 12), False)
        self.assertIs(is_thing(("is", 0), 0), False)
        self.assertIs(is_thing(("many", 0), 0), True)

    def test_spoilt_alone(self):
        for thing in SPOILT:
            with self.subTest(thing=thing):
                self.assertIs(is_thing(thing, 2), False)

    def test_spoilt_within_each_place_of_others(self):
        for spoilt in SPOILT:
            for wrapping in WRAPPINGS:
                with self.subTest(thing=wrapping(spoilt)):
                    self.assertIs(is_thing(wrapping(spoilt), 2), False)
                    self.assertIs(is_thing(("not", wrapping(spoilt)), 2), False)

    def test_thirty_deep(self):
        for depth in (29, 30, 31, 32):
            for thing, text in WRITINGS:
                with self.subTest(depth=depth, thing=thing):
                    self.assertIs(is_thing(nested(thing, depth), 2), True)
            for spoilt in SPOILT:
                with self.subTest(depth=depth, spoilt=spoilt):
                    self.assertIs(is_thing(nested(spoilt, depth), 2), False)

    def test_each_word_thirty_deep_by_itself(self):
        for wrapping in WRAPPINGS:
            thing = ("is", 1)
            for step in range(30):
                thing = wrapping(thing)
            with self.subTest(thing=thing[0]):
                self.assertIs(is_thing(thing, 2), True)
                self.assertIs(is_thing(thing, 1), False)

    def test_nests_without_words_thirty_deep(self):
        for wrapping in (lambda thing: [thing], lambda thing: (thing,), lambda thing: (thing, thing)):
            thing = None
            for step in range(30):
                thing = wrapping(thing)
            self.assertIs(is_thing(thing, 2), False)
            self.assertIs(is_hall(thing), False)

    def test_arguments_by_name(self):
        self.assertIs(is_thing(thing=("is", 0), many=1), True)


class IsHallTest(unittest.TestCase):
    def test_halls(self):
        for many in range(1, 7):
            for length in range(13):
                sayings = tuple((n % many, ("is", many - 1)) for n in range(length))
                with self.subTest(many=many, length=length):
                    self.assertIs(is_hall((many, sayings)), True)

    def test_halls_with_each_kind_of_thing(self):
        for thing, text in WRITINGS:
            with self.subTest(thing=thing):
                self.assertIs(is_hall((2, ((0, thing), (1, nested(thing, 30))))), True)

    def test_numbers_of_guests_that_no_hall_has(self):
        for many in (0, 7, -1, 8, 10 ** 30, True, False, None, "1", "", (1,), (), [1]):
            for sayings in ((), ((0, ("many", 0)),)):
                with self.subTest(many=many, sayings=sayings):
                    self.assertIs(is_hall((many, sayings)), False)

    def test_too_many_sayings(self):
        for length in (13, 14, 40):
            with self.subTest(length=length):
                self.assertIs(is_hall((2, ((0, ("is", 0)),) * length)), False)

    def test_speakers_that_are_not_there(self):
        for speaker in (2, 3, -1, True, False, None, "0", (0,), [0], (), []):
            with self.subTest(speaker=speaker):
                self.assertIs(is_hall((2, ((speaker, ("is", 0)),))), False)

    def test_each_speaker_that_is_there(self):
        for many in range(1, 7):
            for speaker in range(-2, 9):
                with self.subTest(many=many, speaker=speaker):
                    self.assertIs(is_hall((many, ((speaker, ("many", 1)),))), 0 <= speaker < many)

    def test_sayings_that_are_no_tuple(self):
        for sayings in ([], [(0, ("is", 0))], None, "", "is", 0, 1, True):
            with self.subTest(sayings=sayings):
                self.assertIs(is_hall((2, sayings)), False)

    def test_sayings_of_another_form(self):
        spoilt = (
            [0, ("is", 0)],
            (0,),
            (("is", 0),),
            (0, ("is", 0), ("is", 1)),
            (0, ("is", 0), 0),
            (("is", 0), 0),
            (),
            ("is", 0),
            ("not", ("is", 0)),
            None,
            True,
            0,
            "",
            "ab",
            "0 is 0",
        )
        for saying in spoilt:
            with self.subTest(saying=saying):
                self.assertIs(is_hall((2, (saying,))), False)
                self.assertIs(is_hall((2, ((0, ("is", 0)), saying))), False)
                self.assertIs(is_hall((2, (saying, (0, ("is", 0))))), False)

    def test_spoilt_things_said(self):
        for thing in SPOILT:
            with self.subTest(thing=thing):
                self.assertIs(is_hall((2, ((0, thing),))), False)
                self.assertIs(is_hall((2, ((0, ("is", 0)), (1, ("not", thing))))), False)

    def test_guests_are_those_of_the_hall(self):
        for many in range(1, 7):
            for k in range(8):
                with self.subTest(many=many, k=k):
                    self.assertIs(is_hall((many, ((0, ("is", k)),))), k < many)

    def test_halls_of_another_form(self):
        spoilt = (
            [],
            [1, ()],
            (),
            (1,),
            ((),),
            (1, (), ()),
            (1, (0, ("is", 0))),
            ((), 1),
            None,
            True,
            False,
            0,
            1,
            2,
            "",
            "ab",
            ("is", 0),
        )
        for hall in spoilt:
            with self.subTest(hall=hall):
                self.assertIs(is_hall(hall), False)

    def test_arguments_by_name(self):
        self.assertIs(is_hall(thing=(1, ())), True)


class NothingChangesTest(unittest.TestCase):
    def test_what_is_handed_in_stays_and_the_answer_too(self):
        things = [["not", ["is", 0]], (["is"], 0), ("not", ["is", 0]), [2, [[0, ["is", 0]]]], (2, [(0, ("is", 0))])]
        for thing in things:
            with self.subTest(thing=thing):
                before = copy.deepcopy(thing)
                for time in range(3):
                    self.assertIs(is_thing(thing, 2), False)
                    self.assertIs(is_hall(thing), False)
                self.assertEqual(thing, before)

    def test_asked_again(self):
        hall = (2, ((0, ("is", 1)), (1, ("not", ("is", 0)))))
        for time in range(3):
            self.assertIs(is_thing(("is", 1), 2), True)
            self.assertIs(is_thing(("is", 1), 1), False)
            self.assertIs(is_hall(hall), True)
            self.assertIs(is_hall((1, hall[1])), False)


if __name__ == "__main__":
    unittest.main()

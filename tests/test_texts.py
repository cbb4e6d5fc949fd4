import itertools
import unittest

from examples import WRITINGS, all_things, nested
from knavehall.errors import HallError, NoText, NoWorld
from knavehall.reading import read
from knavehall.writing import written

# None of these is the writing of a thing among two guests.
NO_TEXTS = (
    # no word, or none but blanks
    "",
    " ",
    "  ",
    # a word too few
    "is",
    "many",
    "not",
    "and",
    "and is 0",
    "and is 0 is",
    "or is 0",
    "alike is 0",
    "says",
    "says 0",
    "says is 0",
    "says 0 is",
    "not not",
    "0",
    "1",
    # a word too many, a second thing behind the first
    "is 0 0",
    "is 0 1",
    "is 0 is 1",
    "many 1 many 1",
    "not is 0 is 1",
    "and is 0 is 1 is 0",
    "says 0 is 0 is 1",
    "says 0 1 is 0",
    "is is 0",
    "0 is 0",
    "is 0 and",
    "is 0 not",
    # blanks
    " is 0",
    "is 0 ",
    "is  0",
    "not  is 0",
    "and is 0  is 1",
    "is0",
    "i s 0",
    "many 1 ",
    # other words, other letters, other signs
    "IS 0",
    "Is 0",
    "iS 0",
    "NOT is 0",
    "Many 1",
    "knight 0",
    "guest 0",
    "iff is 0 is 1",
    "is zero",
    "is,0",
    "(is 0)",
    "is (0)",
    "('is', 0)",
    "is 0.",
    "is 0;",
    "is k",
    "is K",
    "many N",
    "~",
    # numbers written otherwise
    "is 00",
    "is 01",
    "is -0",
    "is -1",
    "is +0",
    "is +1",
    "is 1.0",
    "is 0x1",
    "is 1_0",
    "is 0_1",
    "is 1e0",
    "is True",
    "is None",
    "many 00",
    "many 01",
    "many 07",
    "many -1",
    "many -0",
    "many +1",
    "many 1_",
    "says 00 is 0",
    "says 01 is 0",
    "says -1 is 0",
    "says +1 is 0",
    # guests that are not there, counts beyond 7
    "is 2",
    "is 7",
    "is 10",
    "says 2 is 0",
    "says 0 is 2",
    "not is 2",
    "many 8",
    "many 9",
    "many 10",
    "is " + "9" * 10000,
    "many " + "9" * 10000,
    "says " + "9" * 10000 + " is 0",
    # things and numbers in one another's place
    "not 0",
    "not 1 is 0",
    "and 0 1",
    "and 0 is 1",
    "or is 1 0",
    "alike 1 1",
    "many is 0",
    "is many 0",
    "says is 0 is 0",
    "says is 0 0",
    "says 0 0",
)


class WrittenTest(unittest.TestCase):
    def test_each_kind_of_thing(self):
        for thing, text in WRITINGS:
            with self.subTest(thing=thing):
                self.assertEqual(written(thing), text)
                self.assertIs(type(written(thing)), str)

    def test_all_numbers(self):
        for number in range(8):
            self.assertEqual(written(("many", number)), "many " + str(number))
        for guest in range(6):
            self.assertEqual(written(("is", guest)), "is " + str(guest))
            self.assertEqual(written(("says", guest, ("many", 0))), "says " + str(guest) + " many 0")

    def test_thirty_deep(self):
        thing = ("is", 0)
        for step in range(30):
            thing = ("says", step % 6, thing)
        expected = " ".join(["says " + str(step % 6) for step in reversed(range(30))]) + " is 0"
        self.assertEqual(written(thing), expected)

    def test_one_blank_between_words_and_none_at_the_ends(self):
        for thing, text in WRITINGS:
            for depth in (1, 8, 30):
                found = written(nested(thing, depth))
                with self.subTest(text=found):
                    self.assertEqual(found, " ".join(found.split()))

    def test_arguments_by_name(self):
        self.assertEqual(written(thing=("is", 0)), "is 0")


class ReadTest(unittest.TestCase):
    def assert_same(self, found, thing):
        """Equal, and with no truth or list where a number or a tuple is asked."""
        self.assertEqual(repr(found), repr(thing))

    def test_each_kind_of_thing(self):
        for thing, text in WRITINGS:
            with self.subTest(text=text):
                self.assert_same(read(text, 2), thing)

    def test_what_is_written_is_read(self):
        for words in range(2, 6):
            for thing in all_things(words, 3):
                self.assert_same(read(written(thing), 3), thing)

    def test_thirty_deep(self):
        for depth in (29, 30, 31, 32):
            for thing, text in WRITINGS:
                with self.subTest(depth=depth, text=text):
                    deep = nested(thing, depth)
                    self.assert_same(read(written(deep), 2), deep)

    def test_no_texts(self):
        for text in NO_TEXTS:
            with self.subTest(text=text[:40]):
                with self.assertRaises(NoText):
                    read(text, 2)

    def test_no_texts_within_others(self):
        for text in NO_TEXTS:
            for outer in ("not {}", "says 1 {}", "and is 0 {}", "or many 1 not {}"):
                with self.subTest(text=outer.replace("{}", text)[:40]):
                    with self.assertRaises(NoText):
                        read(outer.replace("{}", text), 2)

    def test_no_texts_thirty_deep(self):
        for end in ("is 2", "is", "is 0 is 0", "many 8", "IS 0", "is 00", " is 0", "is 0 ", ""):
            with self.subTest(end=end):
                with self.assertRaises(NoText):
                    read("not " * 30 + end, 2)

    def test_writings_with_a_blank_or_a_word_more_or_less(self):
        for thing, text in WRITINGS:
            words = text.split(" ")
            others = [" " + text, text + " ", text + " 0", text + " is 0", text + " " + text, text.upper()]
            others += [" ".join(words[:-1])]
            for place in range(1, len(words)):
                others.append(" ".join(words[:place]) + "  " + " ".join(words[place:]))
            for other in others:
                with self.subTest(text=other):
                    with self.assertRaises(NoText):
                        read(other, 2)

    def test_just_the_writings_are_read(self):
        vocabulary = ("is", "many", "not", "and", "or", "alike", "says", "0", "1", "2", "7", "8", "00", "-1", "IS", "")
        for length in range(1, 5):
            expected = {written(thing): thing for thing in all_things(length, 2)}
            for words in itertools.product(vocabulary, repeat=length):
                text = " ".join(words)
                try:
                    found = read(text, 2)
                except NoText:
                    found = None
                self.assertEqual(found, expected.get(text), text)

    def test_guests_that_are_there(self):
        for many in range(1, 7):
            for guest in range(9):
                for text, thing in (
                    ("is " + str(guest), ("is", guest)),
                    ("says " + str(guest) + " many 1", ("says", guest, ("many", 1))),
                    ("not is " + str(guest), ("not", ("is", guest))),
                ):
                    with self.subTest(many=many, text=text):
                        if guest < many:
                            self.assert_same(read(text, many), thing)
                        else:
                            with self.assertRaises(NoText):
                                read(text, many)

    def test_counts_among_however_many_guests(self):
        for many in range(1, 7):
            for number in range(8):
                self.assert_same(read("many " + str(number), many), ("many", number))
            for number in (8, 9, 10, 70):
                with self.assertRaises(NoText):
                    read("many " + str(number), many)

    def test_numbers_of_guests_somewhat_beyond_the_bound_are_not_refused(self):
        self.assert_same(read("is 6", 7), ("is", 6))
        self.assert_same(read("says 11 is 9", 12), ("says", 11, ("is", 9)))
        for text, many in (("is 7", 7), ("many 8", 12), ("is 0", 0)):
            with self.assertRaises(NoText):
                read(text, many)

    def test_refusals_are_taken_by_their_bases(self):
        for taken_by in (HallError, ValueError):
            with self.assertRaises(taken_by) as caught:
                read("is", 2)
            self.assertIsInstance(caught.exception, NoText)
            self.assertNotIsInstance(caught.exception, NoWorld)

    def test_asked_again(self):
        for time in range(3):
            self.assert_same(read("says 1 is 0", 2), ("says", 1, ("is", 0)))
            self.assertEqual(written(("says", 1, ("is", 0))), "says 1 is 0")
            with self.assertRaises(NoText):
                read("says 1 is 0", 1)

    def test_arguments_by_name(self):
        self.assert_same(read(text="is 0", many=1), ("is", 0))


if __name__ == "__main__":
    unittest.main()

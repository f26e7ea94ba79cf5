"""Point 5: task sets as texts."""

import re
import unittest

from eventcore import errors
from eventcore.tasktext import read_tasks, write_tasks
from support import ANY_VALUES, Checks, random_tasks, rng_of, wrong_tasks

HIGH = (20, 60, 60)


def plain_read(text):
    """The task set, or the index of the first character that is not allowed, token by token."""
    numbers = []
    place = 0
    while True:
        place += len(re.match(" *", text[place:]).group())
        row = re.match("[0-9]*", text[place:]).group()
        if not re.fullmatch("[1-9][0-9]?", row) or int(row) > HIGH[len(numbers) % 3]:
            return place
        numbers.append(int(row))
        place += len(row)
        place += len(re.match(" *", text[place:]).group())
        if place == len(text) and len(numbers) % 3 == 0:
            return tuple(tuple(numbers[k:k + 3]) for k in range(0, len(numbers), 3))
        mark = "," if len(numbers) % 3 == 0 else "/"
        if text[place:place + 1] != mark or len(numbers) == 18:
            return place
        place += 1


class TextTest(Checks, unittest.TestCase):
    def assert_read(self, text, wanted):
        """Wanted is a task set, or the place of the error."""
        if isinstance(wanted, tuple):
            self.assert_same(self.assert_steady(read_tasks, text), wanted)
        else:
            self.assert_error(errors.InvalidText(wanted), read_tasks, text)

    def test_examples(self):
        answers = [write_tasks(((2, 5, 8), (1, 4, 4))), read_tasks(' 2 / 5/8 ,1/4/4')]
        self.assert_same(answers, ['2/5/8, 1/4/4', ((2, 5, 8), (1, 4, 4))])
        self.assert_read('2/5/08', 4)

    def test_writing(self):
        self.assert_same(write_tasks(((1, 1, 1),)), "1/1/1")
        self.assert_same(write_tasks(((20, 60, 60),)), "20/60/60")
        self.assert_same(write_tasks(((20, 60, 60), (1, 2, 3)) * 3), ", ".join(["20/60/60", "1/2/3"] * 3))

    def test_writing_wrong_values(self):
        for value, error in wrong_tasks(errors):
            self.assert_error(error, write_tasks, value)

    def test_there_and_back(self):
        rng = rng_of(10)
        for _ in range(300):
            tasks = random_tasks(rng, most=6, most_cost=20, most_gap=60, most_deadline=60)
            text = self.assert_steady(write_tasks, tasks)
            self.assertEqual(text, ", ".join("/".join(map(str, task)) for task in tasks))
            self.assert_read(text, tasks)

    def test_spaces_at_every_place(self):
        for spaces in (" ", "   "):
            tokens = ["12", "/", "34", "/", "56", ",", "1", "/", "2", "/", "3"]
            for k in range(len(tokens) + 1):
                self.assert_read("".join(tokens[:k]) + spaces + "".join(tokens[k:]), ((12, 34, 56), (1, 2, 3)))
            self.assert_read(spaces + spaces.join(tokens) + spaces, ((12, 34, 56), (1, 2, 3)))

    def test_spaces_inside_a_number(self):
        self.assert_read("1 2/3/4", 2)
        self.assert_read("1/1 2/4", 4)
        self.assert_read("1/2/1   2", 8)
        self.assert_read("1/2/3, 1 0/2/3", 9)
        self.assert_read("1/2/3 0", 6)
        self.assert_read("1/2/3 4/5/6", 6)

    def test_leading_zeros_and_zero(self):
        self.assert_read("0/1/1", 0)
        self.assert_read("  0/1/1", 2)
        self.assert_read("1/0/1", 2)
        self.assert_read("1/1/0", 4)
        self.assert_read("01/1/1", 0)
        self.assert_read("1/01/1", 2)
        self.assert_read("1/1/ 001", 5)
        self.assert_read("00", 0)
        self.assert_read("1/1/1,0", 6)

    def test_ranges(self):
        self.assert_read("20/60/60", ((20, 60, 60),))
        self.assert_read("1/1/1", ((1, 1, 1),))
        self.assert_read("21/60/60", 0)
        self.assert_read("20/61/60", 3)
        self.assert_read("20/60/61", 6)
        self.assert_read("100/1/1", 0)
        self.assert_read("1/100/1", 2)
        self.assert_read("1/1/100", 4)
        self.assert_read("1/1/1, 30/1/1", 7)
        self.assert_read("200 x", 0)

    def test_very_long_numbers(self):
        self.assert_read("9" * 6000, 0)
        self.assert_read("1/" + "1" * 6000 + "/1", 2)
        self.assert_read("1/1/1," + "0" * 6000, 6)

    def test_a_comma_that_would_start_a_seventh_task(self):
        six = ",".join(["1/2/3"] * 6)
        self.assert_read(six, ((1, 2, 3),) * 6)
        self.assert_read(six + "  ", ((1, 2, 3),) * 6)
        self.assert_read(six + ",1/2/3", len(six))
        self.assert_read(six + ",", len(six))
        self.assert_read(six + "  , 1/2/3", len(six) + 2)
        self.assert_read(six + "/", len(six))

    def test_texts_that_end_too_early(self):
        self.assert_read("", 0)
        self.assert_read("   ", 3)
        whole = "12/34/56, 1/2/3"
        for k in range(len(whole)):
            wanted = plain_read(whole[:k])
            self.assert_read(whole[:k], wanted)
            if isinstance(wanted, int):
                self.assertEqual(wanted, k)
        self.assert_read("1", 1)
        self.assert_read("1 ", 2)
        self.assert_read("1/", 2)
        self.assert_read("1/2 ", 4)
        self.assert_read("1/2/ ", 5)
        self.assert_read("1/2/3,", 6)
        self.assert_read("1/2/3,  ", 8)

    def test_other_characters(self):
        whole = "12/34/56, 1/2/3"
        for k in range(len(whole) + 1):
            for char in "x-+.;\n\t\\_(%e\u00b2\u0661\uff11\u00a0\ud800":
                self.assert_read(whole[:k] + char + whole[k:], k)

    def test_marks_in_wrong_places(self):
        self.assert_read("/1/2/3", 0)
        self.assert_read(",1/2/3", 0)
        self.assert_read("1,2/3", 1)
        self.assert_read("1/2,3", 3)
        self.assert_read("1/2/3/4", 5)
        self.assert_read("1//2/3", 2)
        self.assert_read("1/2/3,,1/2/3", 6)
        self.assert_read("1/2/3,/", 6)

    def test_bent_texts(self):
        rng = rng_of(11)
        for _ in range(4000):
            tasks = random_tasks(rng, most=6, most_cost=20, most_gap=60, most_deadline=60)
            text = list(rng.choice((", ", ",", " ,", " , ")).join(rng.choice(("/", " /", "/ ")).join(map(str, task))
                                                                  for task in tasks))
            for _ in range(rng.randint(1, 3)):
                place = rng.randrange(len(text) + 1)
                text[place:place + rng.randint(0, 1)] = rng.choice(list("0123456789/,  ") + [",1/2/3", ""])
            self.assert_read("".join(text), plain_read("".join(text)))

    def test_values_that_are_not_strings(self):
        for value in ANY_VALUES:
            if isinstance(value, str):
                self.assert_read(value, plain_read(value))
            else:
                self.assert_error(errors.NotText(), read_tasks, value)


if __name__ == "__main__":
    unittest.main()

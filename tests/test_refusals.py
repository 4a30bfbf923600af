"""The refusals of the calls 0 to 10, their order, and that they change nothing."""

import unittest

from tests.helper import DROP, EQUAL, FALLS, FILE, LOOK, PUT, TEXT, TOLD, TRUTH, WITHIN
from tests.helper import ask, bytes_of, last

LEAST, MOST = -9223372036854775808, 9223372036854775807
STOCK = (FILE, "marks a b\ncards 2 a\nask x a\nask y b")


class OfNumbers(unittest.TestCase):
    def test_out_of_range(self):
        for number in (-1, 6, LEAST, MOST):
            for one in (DROP, TRUTH, FALLS):
                self.assertEqual(last(STOCK, (one, number)), [-3])
            for one in (EQUAL, WITHIN):
                self.assertEqual(last(STOCK, (one, number, 0)), [-3])
                self.assertEqual(last(STOCK, (one, 0, number)), [-3])

    def test_no_such_question(self):
        for number in (2, 5):
            for one in (DROP, TRUTH, FALLS):
                self.assertEqual(last(STOCK, (one, number)), [-5])
            for one in (EQUAL, WITHIN):
                self.assertEqual(last(STOCK, (one, number, 1)), [-5])
                self.assertEqual(last(STOCK, (one, 1, number)), [-5])

    def test_on_an_empty_file(self):
        self.assertEqual(ask((DROP, 0), (TRUTH, 0), (FALLS, 5), (EQUAL, 0, 0), (WITHIN, 0, 0)), [[-5]] * 5)

    def test_six_questions_are_there(self):
        full = (FILE, "marks" + "".join(f"\nask {name} all" for name in "abcdef"))
        self.assertEqual(ask(full, (TRUTH, 5), (FALLS, 5), (EQUAL, 5, 4), (WITHIN, 4, 5), (DROP, 5), (DROP, 5))[1:],
                         [[1, 1], [0, 0], [1], [1], [5], [-5]])

    def test_the_first_number_before_the_second(self):
        for one in (EQUAL, WITHIN):
            self.assertEqual(last(STOCK, (one, 2, 6)), [-5])
            self.assertEqual(last(STOCK, (one, 6, 2)), [-3])
            self.assertEqual(last(STOCK, (one, 2, -1)), [-5])
            self.assertEqual(last(STOCK, (one, -1, -1)), [-3])


class OfTexts(unittest.TestCase):
    def test_numbers_that_are_no_bytes(self):
        good = {FILE: "marks", LOOK: "marks", PUT: "cards 1"}
        for one, text in good.items():
            for number in (-1, 256, LEAST, MOST):
                self.assertEqual(last((one, bytes_of(text) + [number])), [-1])
                self.assertEqual(last((one, [number] + bytes_of(text))), [-1])

    def test_strange_bytes_are_a_fault(self):
        for number in (0, 9, 13, 37, 46, 63, 65, 127, 128, 255):
            self.assertEqual(last((FILE, bytes_of("marks a ") + [number])), [-1008])
            self.assertEqual(last((LOOK, bytes_of("marks a") + [number])), [1, 6])
            self.assertEqual(last((PUT, bytes_of("cards ") + [number])), [-1006])

    def test_2000_numbers_and_2001(self):
        long = long_file(2000)
        self.assertEqual(len(long), 2000)
        self.assertEqual(ask((FILE, long), (LOOK, long)), [[2, 0, 1], [0]])
        self.assertEqual(ask((FILE, long_file(2001)), (LOOK, long_file(2001)), (TOLD,)),
                         [[-1], [-1], [0, 0, 0, 0]])
        line = long_file(2011)[11:]
        self.assertEqual(len(line), 2000)
        self.assertEqual(ask((FILE, "marks a bb"), (PUT, line), (PUT, line + " "))[1:], [[0, 1], [-1]])
        self.assertEqual(last((LOOK, "x" * 2000)), [1, 0])
        self.assertEqual(last((LOOK, "x" * 2001)), [-1])
        self.assertEqual(last((LOOK, "x" * 3000)), [-1])

    def test_no_text_before_a_fault(self):
        self.assertEqual(last((FILE, [120, 256])), [-1])
        self.assertEqual(last((LOOK, [120, -1])), [-1])
        self.assertEqual(last((PUT, [120, 256])), [-1])
        self.assertEqual(last((FILE, "x" * 2001)), [-1])
        self.assertEqual(last((PUT, "x" * 2001)), [-1])
        self.assertEqual(last((LOOK, [300] * 2001)), [-1])

    def test_place_of_the_fault(self):
        self.assertEqual(last((FILE, "mark")), [-1000])
        self.assertEqual(last((FILE, "marks a\ncards 5 b")), [-1016])
        self.assertEqual(last((LOOK, "marks a\ncards 5 b")), [1, 16])
        self.assertEqual(last(STOCK, (PUT, "cards 5 c")), [-1008])
        self.assertEqual(last(STOCK, (PUT, "cards 5 b a")), [-1010])
        self.assertEqual(last((FILE, "marks a\nask x a and " + "a and " * 320 + "b")), [-1000 - 1940])


class ChangeNothing(unittest.TestCase):
    def test_every_refusal(self):
        refused = [
            (FILE, "marks b\ncards"), (FILE, [256]), (FILE, "marks b\ncards 1\nask x b\n"), (LOOK, [256]),
            (PUT, "cards 4 b a"), (PUT, "cards 4\n"), (PUT, "ask z a\nask w b"), (PUT, "ask z a b"), (PUT, [-1]),
            (PUT, "ask x all"), (DROP, 2), (DROP, 6), (TRUTH, 2), (FALLS, -1), (EQUAL, 0, 2), (WITHIN, 6, 0)]
        before = ask(STOCK, (TOLD,), (TEXT,), (TRUTH, 0), (TRUTH, 1))[1:]
        for one in refused:
            answered = ask(STOCK, one, (TOLD,), (TEXT,), (TRUTH, 0), (TRUTH, 1))
            self.assertEqual(len(answered[1]), 1)
            self.assertLess(answered[1][0], 0)
            self.assertEqual(answered[2:], before)
        self.assertEqual(ask(STOCK, *refused, (TOLD,), (TEXT,), (TRUTH, 0), (TRUTH, 1))[-4:], before)


def long_file(length):
    """A right text of that length, at least 40."""
    text = "marks a bb\nask x a"
    more = length - len(text)
    longer = more % 5
    return text + " or bb" * longer + " or a" * ((more - 6 * longer) // 5)

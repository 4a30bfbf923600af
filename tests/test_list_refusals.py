"""The refusals of the calls 11 to 21, their order, and that they change nothing."""

import unittest

from tests.helper import ACCEPT, CARD, COST, CUBE, DEEP, FILE, HANGS, LABELS, LEAST, MEAN, TEXT, THUMB, TOGETHER
from tests.helper import TOLD, TRUTH
from tests.helper import HIGHEST, LOWEST, ask, last, parity, stock_of

STOCK = (FILE, "marks a b\ncards 2 a\nask x a\nask y b\nask z a and b")
ROW = [1, 0, 0, 0, 1]
FULL = stock_of(6, [(1, 0)], [parity(6)] * 6)
BARE = (FILE, "marks a b\nask x a")
FAR = 1000000000001


def with_questions(questions):
    """Each call that has questions, right but for these on the stock."""
    return [(LEAST, questions), (COST, questions, ROW), (LABELS, questions), (ACCEPT, questions, [0] * 9),
            (DEEP, questions), (TOGETHER, questions), (MEAN, questions), (THUMB, questions), (CUBE, 8, questions)]


class OfQuestions(unittest.TestCase):
    def refused(self, questions, stock=(STOCK,)):
        for one in with_questions(questions):
            self.assertEqual(last(*stock, one), [-4], one)

    def taken(self, questions, stock=(STOCK,)):
        for one in with_questions(questions):
            self.assertGreaterEqual(last(*stock, one)[0], 0, one)

    def test_one_to_all(self):
        for questions in ([0], [2], [0, 1], [2, 0], [0, 1, 2], [2, 1, 0]):
            self.taken(questions)

    def test_none(self):
        self.refused([])

    def test_twice(self):
        for questions in ([0, 0], [2, 2], [0, 1, 0], [0, 1, 1], [1, 1, 0], [0, 0, 0]):
            self.refused(questions)

    def test_not_there(self):
        for number in (3, 4, 5, 6, 7, HIGHEST):
            self.refused([number])
            self.refused([0, number])
            self.refused([number, 0])
            self.refused([0, 1, number])

    def test_below_0(self):
        for number in (-1, -2, -3, LOWEST):
            self.refused([number])
            self.refused([0, number])
            self.refused([number, 0])

    def test_no_question_at_all(self):
        self.refused([0], [(FILE, "marks a b\ncards 1")])
        self.refused([0], [])
        self.refused([], [])

    def test_six_and_seven(self):
        calls = [(DEEP, questions) for questions in (
            [0, 1, 2, 3, 4, 5], [5, 4, 3, 2, 1, 0], [0, 1, 2, 3, 4, 5, 6], [0, 1, 2, 3, 4, 5, 0], [0, 1, 2, 3, 4, 6],
            [0, 1, 2, 3, 4, 4], [5], [6])]
        self.assertEqual(ask(*FULL, *calls)[7:], [[6], [6], [-4], [-4], [-4], [-4], [6], [-4]])

    def test_3000(self):
        for questions in ([0] * 3000, list(range(3000)), [HIGHEST] * 3000):
            self.assertEqual(last(STOCK, (LEAST, questions)), [-4])
            self.assertEqual(last(*FULL, (LEAST, questions)), [-4])


class OfNumbers(unittest.TestCase):
    def test_hangs(self):
        for number in (-1, 6, LOWEST, HIGHEST):
            self.assertEqual(last(STOCK, (HANGS, number)), [-3])
        for number in (3, 4, 5):
            self.assertEqual(last(STOCK, (HANGS, number)), [-5])
        self.assertEqual(ask((HANGS, 0), (HANGS, 6)), [[-5], [-3]])

    def test_card(self):
        for number in (-1, 64, LOWEST, HIGHEST):
            self.assertEqual(last(STOCK, (CARD, number, ROW)), [-3])
        for number in (4, 5, 63):
            self.assertEqual(last(STOCK, (CARD, number, ROW)), [-5])
        self.assertEqual(ask(*FULL, (CARD, 63, ROW), (CARD, 64, ROW))[7:], [[1, 1], [-3]])

    def test_cube(self):
        for number in (-1, 729, LOWEST, HIGHEST):
            self.assertEqual(last(STOCK, (CUBE, number, [0])), [-3])
        for number in (9, 10, 728):
            self.assertEqual(last(STOCK, (CUBE, number, [0])), [-5])
        self.assertEqual(ask(*FULL, (CUBE, 728, [0]), (CUBE, 729, [0]))[7:], [[0, 0, 1, 6, 6], [-3]])


class OfCards(unittest.TestCase):
    def test_no_cards(self):
        for text in ("marks a b\nask x a", "marks a b\ncards 0\ncards 0 a b\nask x a", "marks\nask x all"):
            self.assertEqual(last((FILE, text), (MEAN, [0])), [-7])

    def test_one_card(self):
        self.assertEqual(last((FILE, "marks a b\ncards 0\ncards 1 a b\nask x a"), (MEAN, [0])), [1, 1])


class Order(unittest.TestCase):
    def test_of_card(self):
        # -3 of n, then -6 of the plan, then -5 of n.
        self.assertEqual(ask(STOCK, (CARD, 64, []), (CARD, -1, [9]), (CARD, 64, ROW), (CARD, 63, []), (CARD, 4, [3, 0]),
                             (CARD, 4, [0, 64]), (CARD, 4, ROW + [0]), (CARD, 4, ROW), (CARD, 3, ROW))[1:],
                         [[-3], [-3], [-3], [-6], [-6], [-6], [-6], [-5], [1, 1]])

    def test_of_cube(self):
        # -3 of c, then -4 of the questions, then -5 of c.
        self.assertEqual(ask(STOCK, (CUBE, 729, []), (CUBE, -1, [7]), (CUBE, 729, [0]), (CUBE, 728, []),
                             (CUBE, 9, [0, 0]), (CUBE, 9, [3]), (CUBE, 9, [0]), (CUBE, 8, [3]), (CUBE, 8, [0]))[1:],
                         [[-3], [-3], [-3], [-4], [-4], [-4], [-5], [-4], [0, 0, 2, 2, 1]])

    def test_of_cost(self):
        self.assertEqual(ask(STOCK, (COST, [], []), (COST, [3], [0, 64]), (COST, [0, 0], [1] * 50), (COST, [0], []),
                             (COST, [], ROW), (COST, [0], ROW))[1:],
                         [[-4], [-4], [-4], [-6], [-4], [1, 2, 1]])

    def test_of_accept(self):
        self.assertEqual(ask(STOCK, (ACCEPT, [], []), (ACCEPT, [3], [0]), (ACCEPT, [0, 0], [FAR] * 9), (ACCEPT, [0], []),
                             (ACCEPT, [0], [FAR] * 9), (ACCEPT, [], [0] * 9), (ACCEPT, [0], [0] * 9))[1:],
                         [[-4], [-4], [-4], [-6], [-6], [-4], [1, 0]])

    def test_of_mean(self):
        self.assertEqual(ask(BARE, (MEAN, []), (MEAN, [1]), (MEAN, [0, 0]), (MEAN, [-1]), (MEAN, [0]))[1:],
                         [[-4], [-4], [-4], [-4], [-7]])
        self.assertEqual(ask((MEAN, []), (MEAN, [0])), [[-4], [-4]])


class ChangeNothing(unittest.TestCase):
    def test_every_refusal(self):
        refused = with_questions([]) + with_questions([0, 0])[:6] + with_questions([3])[6:]
        refused += [(HANGS, 6), (HANGS, 3), (COST, [0], [1, 0]), (ACCEPT, [0], [0]), (ACCEPT, [0], [FAR] * 9),
                    (CARD, 64, ROW), (CARD, 0, [1] * 50), (CARD, 4, ROW), (CUBE, 729, [0]), (CUBE, 9, [0])]
        after = [(TOLD,), (TEXT,), (TRUTH, 2), (LEAST, [2, 0]), (LABELS, [1]), (COST, [0], ROW)]
        for stock in (STOCK, BARE):
            before = ask(stock, *after)[1:]
            for one in refused:
                answered = ask(stock, one, *after)
                self.assertEqual(len(answered[1]), 1, one)
                self.assertLess(answered[1][0], 0, one)
                self.assertEqual(answered[2:], before, one)
        self.assertEqual(ask(STOCK, *refused[:14], *after)[15:], ask(STOCK, *after)[1:])
        self.assertEqual(ask(BARE, (MEAN, [0]), *after)[2:], ask(BARE, *after)[1:])

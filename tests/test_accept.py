"""Labels that are handed in: the call accept."""

import unittest

from tests.helper import ACCEPT, FILE, HIGHEST, LABELS, LOWEST
from tests.helper import ask, last, parity, stock_of

FAR = 1000000000000
# Cubes: 0 none, 1 a, 2 a open, 3 b, 4 a b, 5 b with a open, 6 b open, 7 a with b open, 8 both open.
PAIR = (FILE, "marks a b\ncards 3 a\ncards 5 b\ncards 1 a b\ncards 2\nask both a and b\nask any a or b\nask ever all")
OWN = [0, 0, 0, 0, 0, 6, 0, 4, 15]
SIX = stock_of(6, [(1, notching) for notching in range(30)], [parity(6), [0] * 63 + [1]])


def changed(labels, cube, label):
    return labels[:cube] + [label] + labels[cube + 1:]


class Accept(unittest.TestCase):
    def accept(self, labels, questions=(0,), stock=PAIR):
        return last(stock, (ACCEPT, list(questions), labels))

    def test_the_own_labels_of_the_table(self):
        self.assertEqual(last(PAIR, (LABELS, [0]))[1:], OWN)
        self.assertEqual(self.accept(OWN), [1, 15])
        for questions in ([0], [1], [2], [0, 1], [2, 1, 0]):
            labels = last(PAIR, (LABELS, questions))[1:]
            self.assertEqual(self.accept(labels, questions), [1, labels[-1]])

    def test_lower_labels(self):
        self.assertEqual(self.accept([0] * 9), [1, 0])
        self.assertEqual(self.accept(changed(OWN, 8, 14)), [1, 14])
        self.assertEqual(self.accept(changed(OWN, 8, -7)), [1, -7])
        self.assertEqual(self.accept([-1, 0, 0, 0, 0, 5, 0, 4, 15]), [1, 15])

    def test_one_label_too_great(self):
        for cube in range(9):
            self.assertEqual(self.accept(changed(OWN, cube, OWN[cube] + 1)), [0, cube])
            self.assertEqual(self.accept(changed(OWN, cube, FAR)), [0, cube])

    def test_the_first_cube_that_is_not_as_told(self):
        self.assertEqual(self.accept([1] * 9), [0, 0])
        self.assertEqual(self.accept([0, 0, 0, 0, 0, 7, 1, 5, 99]), [0, 5])
        self.assertEqual(self.accept([0, 0, 0, 0, 0, 6, 1, 5, 99]), [0, 6])
        self.assertEqual(self.accept([0, 0, 0, 0, 0, 6, 0, 5, 99]), [0, 7])

    def test_each_open_mark_counts(self):
        # By a 11 and 4 and 0, by b 11 and 6 and 0: a lower half lowers what may stand above it.
        self.assertEqual(self.accept([0, 0, 0, 0, 0, 6, 0, 3, 15]), [0, 8])
        self.assertEqual(self.accept([0, 0, 0, 0, 0, 6, 0, 3, 14]), [1, 14])
        self.assertEqual(self.accept([0, 0, -5, 0, 0, 6, 0, 4, 13]), [0, 8])
        self.assertEqual(self.accept([0, 0, -5, 0, 0, 6, 0, 4, 12]), [1, 12])
        self.assertEqual(self.accept([0, 0, 0, 0, 0, 6, -2, 4, 13]), [1, 13])
        self.assertEqual(self.accept([0, 0, 0, 0, 0, 6, -2, 4, 14]), [0, 8])

    def test_a_cube_with_an_answer_is_not_held_against_its_halves(self):
        # Cube 2 has an answer: its halves' labels below 0 don't lower it.
        self.assertEqual(self.accept([-FAR, -FAR, 0, 0, 0, 6, 0, 4 - FAR, 15 - FAR]), [1, 15 - FAR])

    def test_a_cube_without_an_answer_may_be_above_0_by_its_cards_alone(self):
        stock = (FILE, "marks a\ncards 0 a\nask x a")
        self.assertEqual(self.accept([0, 0, 0], stock=stock), [1, 0])
        self.assertEqual(self.accept([0, 0, 1], stock=stock), [0, 2])
        self.assertEqual(self.accept([-1, 0, 0], stock=stock), [0, 2])
        self.assertEqual(self.accept([-1, 0, -1], stock=stock), [1, -1])

    def test_the_questions_of_the_call(self):
        self.assertEqual(self.accept([0, 0, 5, 0, 0, 0, 7, 0, 16], [1]), [1, 16])
        self.assertEqual(self.accept([0, 0, 5, 0, 0, 0, 7, 0, 16], [0]), [0, 2])
        self.assertEqual(self.accept([0, 0, 5, 0, 0, 6, 7, 4, 22], [1, 0]), [1, 22])
        self.assertEqual(self.accept([0] * 8 + [1], [2]), [0, 8])

    def test_at_the_ends_of_the_range(self):
        one = (FILE, "marks a\ncards 5 a\nask x a")
        self.assertEqual(self.accept([0, 0, -FAR], stock=one), [1, -FAR])
        self.assertEqual(self.accept([-FAR, 0, 5 - FAR], stock=one), [1, 5 - FAR])
        self.assertEqual(self.accept([-FAR, 0, 6 - FAR], stock=one), [0, 2])
        self.assertEqual(self.accept([-FAR, -FAR, -FAR], stock=one), [0, 2])
        self.assertEqual(self.accept([FAR, 0, 0], stock=one), [0, 0])
        self.assertEqual(self.accept([0, FAR, 0], stock=one), [0, 1])
        self.assertEqual(self.accept([0, 0, FAR], stock=one), [0, 2])

    def test_beyond_the_range(self):
        for label in (FAR + 1, -FAR - 1, HIGHEST, LOWEST):
            for cube in range(9):
                self.assertEqual(self.accept(changed(OWN, cube, label)), [-6])
        self.assertEqual(self.accept([1] * 8 + [FAR + 1]), [-6])

    def test_too_few_or_too_many(self):
        for labels in ([], OWN[:-1], OWN + [0], OWN[1:], [0] * 3, [0] * 27, [0] * 729, [0] * 3000):
            self.assertEqual(self.accept(labels), [-6])

    def test_no_marks(self):
        stock = (FILE, "marks\ncards 4\nask x all")
        self.assertEqual(self.accept([0], stock=stock), [1, 0])
        self.assertEqual(self.accept([-FAR], stock=stock), [1, -FAR])
        self.assertEqual(self.accept([1], stock=stock), [0, 0])
        self.assertEqual(self.accept([], stock=stock), [-6])
        self.assertEqual(self.accept([0, 0], stock=stock), [-6])

    def test_six_marks(self):
        labels = last(*SIX, (LABELS, [0]))[1:]
        raised = changed(labels, 728, labels[728] + 1)
        calls = [(ACCEPT, [0], tried) for tried in (labels, raised, labels[:-1], labels + [0], changed(labels, 2, 3))]
        self.assertEqual(ask(*SIX, *calls)[3:], [[1, 180], [0, 728], [-6], [-6], [0, 2]])
        self.assertEqual(last(*SIX, (ACCEPT, [1], labels)), [0, 2])
        self.assertEqual(last(*SIX, (ACCEPT, [0, 1], labels)), [1, 180])

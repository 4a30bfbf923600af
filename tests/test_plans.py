"""The calls that go by a plan's row: cost and card."""

import unittest

from tests.helper import CARD, COST, FILE, HIGHEST, LEAST, LOWEST, PUT, THUMB
from tests.helper import ask, last, parity, stock_of

PAIR = (FILE, "marks a b\ncards 3 a\ncards 5 b\ncards 1 a b\ncards 2\nask both a and b\nask any a or b\nask one a")
ROW = [1, 0, 0, 2, 0, 0, 0, 1]
NO_MARKS = (FILE, "marks\ncards 4\nask x all")
SIX = stock_of(6, [(1, notching) for notching in range(30)], [parity(6)])


def chain(needles, mark=0, falls=False):
    """A row with so many needles on one way, all by one mark, and pile 1 at the way's end."""
    if falls:
        return [mark + 1, 0, 0] * needles + [0, 1]
    return [mark + 1] * needles + [0, 1] + [0, 0] * needles


class Cost(unittest.TestCase):
    def cost(self, questions, plan, stock=PAIR):
        return last(stock, (COST, questions, plan))

    def test_right_plans(self):
        self.assertEqual(self.cost([0], ROW), [1, 15, 2])
        self.assertEqual(self.cost([0], [2, 0, 0, 1, 0, 0, 0, 1]), [1, 17, 2])
        self.assertEqual(self.cost([1], [1, 2, 0, 0, 0, 1, 0, 1]), [1, 18, 2])
        self.assertEqual(self.cost([2], [1, 0, 0, 0, 1]), [1, 11, 1])

    def test_the_bits_follow_the_list(self):
        plan = [1, 2, 0, 0, 0, 2, 2, 0, 2, 0, 3]
        self.assertEqual(self.cost([0, 1], plan), [1, 22, 2])
        self.assertEqual(self.cost([1, 0], plan), [0, 1, 22, 2])
        self.assertEqual(self.cost([2, 0, 1], [1, 2, 0, 0, 0, 4, 2, 0, 5, 0, 7]), [1, 22, 2])

    def test_wrong_plans_tell_the_first_notching(self):
        self.assertEqual(self.cost([0], [0, 0]), [0, 3, 0, 0])
        self.assertEqual(self.cost([0], [0, 1]), [0, 0, 0, 0])
        self.assertEqual(self.cost([0], [1, 0, 0, 0, 1]), [0, 1, 11, 1])
        self.assertEqual(self.cost([0], [2, 0, 0, 0, 1]), [0, 2, 11, 1])
        self.assertEqual(self.cost([0], [1, 0, 0, 2, 0, 0, 0, 3]), [0, 3, 15, 2])
        self.assertEqual(self.cost([0], [1, 0, 2, 2, 0, 0, 0, 1]), [0, 0, 15, 2])

    def test_a_notching_without_cards_counts_for_right(self):
        stock = (FILE, "marks a b\ncards 3 a\nask x a and b")
        self.assertEqual(self.cost([0], [0, 0], stock), [0, 3, 0, 0])

    def test_piles_of_more_questions_than_are_asked(self):
        for pile in (2, 3, 62, 63):
            self.assertEqual(self.cost([0], [0, pile]), [0, 0, 0, 0])

    def test_the_file_of_a_thousand_thousands(self):
        stock = (FILE, "marks a b" + "\ncards 1000000 a b" * 30 + "\nask x a and b")
        self.assertEqual(self.cost([0], ROW, stock), [1, 60000000, 2])

    def test_several_lines_of_one_notching_and_lines_without_cards(self):
        stock = (FILE, "marks a b\ncards 2 a\ncards 0\ncards 3 a\ncards 0 b\nask x a and b")
        self.assertEqual(self.cost([0], ROW, stock), [1, 10, 2])
        self.assertEqual(self.cost([0], ROW, (FILE, "marks a b\nask x a and b")), [1, 0, 2])

    def test_needles_by_one_mark_twice_on_a_way(self):
        self.assertEqual(self.cost([2], [1, 1, 0, 0, 0, 1, 0, 1]), [1, 18, 2])
        self.assertEqual(self.cost([2], [1, 0, 0, 1, 0, 0, 0, 1]), [1, 15, 2])
        self.assertEqual(self.cost([2], [1, 1, 0, 0, 0, 63, 1, 0, 7, 0, 1]), [1, 22, 2])
        self.assertEqual(self.cost([2], [1, 1, 0, 1, 0, 0, 1, 0, 7, 0, 1]), [0, 0, 22, 2])

    def test_the_deepest_way_may_be_one_that_no_notching_goes(self):
        self.assertEqual(self.cost([2], [1, 0, 0, 1, 2, 1, 0, 9, 0, 9, 0, 9, 0, 1]), [1, 15, 4])

    def test_the_deepest_way_on_either_side(self):
        self.assertEqual(self.cost([1], [1, 2, 0, 0, 2, 0, 9, 0, 1, 0, 1]), [1, 23, 3])
        self.assertEqual(self.cost([1], [1, 2, 0, 0, 0, 1, 2, 0, 1, 2, 0, 9, 0, 1]), [1, 23, 3])

    def test_no_marks_and_six(self):
        self.assertEqual(self.cost([0], [0, 1], NO_MARKS), [1, 0, 0])
        self.assertEqual(self.cost([0], [0, 0], NO_MARKS), [0, 0, 0, 0])
        for plan in (LEAST, THUMB):
            row = last(*SIX, (plan, [0]))[1:]
            self.assertEqual(last(*SIX, (COST, [0], row)), [1, 180, 6])
            self.assertEqual(last(*SIX, (COST, [0], row[:-1] + [1 - row[-1]])), [0, 63, 180, 6])

    def test_999_needles_on_one_way(self):
        stock = (FILE, "marks a b\ncards 1000 a\ncards 3 b\nask x a\nask y not a")
        self.assertEqual(len(chain(999)), 2999)
        self.assertEqual(self.cost([1], chain(999), stock), [1, 1000 + 3 * 999, 999])
        self.assertEqual(self.cost([0], chain(999), stock), [0, 0, 1000 + 3 * 999, 999])
        self.assertEqual(self.cost([0], chain(999, falls=True), stock), [1, 1000 * 999 + 3, 999])
        self.assertEqual(self.cost([0], chain(999, 1, True), stock), [0, 1, 1000 + 3 * 999, 999])
        self.assertEqual(last(*SIX, (COST, [0], chain(999, 5)))[2:], [30 * 999, 999])

    def test_a_plan_with_both_ways_long(self):
        both = [1] + chain(499) + chain(499, falls=True)
        self.assertEqual(len(both), 2999)
        self.assertEqual(self.cost([2], both), [0, 0, 11 * 500, 500])


class Card(unittest.TestCase):
    def test_pile_and_needlings(self):
        plan = [1, 0, 5, 2, 0, 6, 0, 7]
        self.assertEqual(ask(PAIR, *[(CARD, notching, plan) for notching in range(4)])[1:],
                         [[5, 1], [6, 2], [5, 1], [7, 2]])
        plan = [2, 1, 0, 0, 0, 1, 1, 0, 2, 0, 3]
        self.assertEqual(ask(PAIR, *[(CARD, notching, plan) for notching in range(4)])[1:],
                         [[0, 2], [1, 2], [2, 2], [3, 2]])

    def test_no_needle(self):
        self.assertEqual(ask(PAIR, (CARD, 0, [0, 0]), (CARD, 3, [0, 63]))[1:], [[0, 0], [63, 0]])
        self.assertEqual(ask(NO_MARKS, (CARD, 0, [0, 63]), (CARD, 0, [0, 0]))[1:], [[63, 0], [0, 0]])

    def test_before_any_file(self):
        self.assertEqual(ask((CARD, 0, [0, 4]), (CARD, 1, [0, 4]), (CARD, 0, [1, 0, 4, 0, 4])), [[4, 0], [-5], [-6]])

    def test_by_one_mark_twice(self):
        self.assertEqual(ask(PAIR, *[(CARD, notching, [1, 1, 0, 0, 0, 9, 1, 0, 8, 0, 1]) for notching in (0, 1)])[1:],
                         [[0, 2], [1, 2]])

    def test_six_marks(self):
        row = last(*SIX, (LEAST, [0]))[1:]
        self.assertEqual(ask(*SIX, *[(CARD, notching, row) for notching in range(64)])[2:],
                         [[holds, 6] for holds in parity(6)])
        self.assertEqual(ask(*SIX, (CARD, 31, [6, 0, 1, 0, 2]), (CARD, 32, [6, 0, 1, 0, 2]), (CARD, 63, [6, 0, 1, 0, 2])),
                         ask(*SIX) + [[1, 1], [2, 1], [2, 1]])

    def test_999_needles_on_one_way(self):
        self.assertEqual(ask(PAIR, (CARD, 2, chain(999)), (CARD, 3, chain(999)), (CARD, 3, chain(999, 1, True)))[1:],
                         [[1, 999], [0, 1], [1, 999]])


class WrongRows(unittest.TestCase):
    def refused(self, plan, stock=PAIR):
        self.assertEqual(last(stock, (CARD, 0, plan)), [-6], plan)
        self.assertEqual(last(stock, (COST, [0], plan)), [-6], plan)

    def taken(self, plan, stock=PAIR):
        self.assertGreaterEqual(last(stock, (CARD, 0, plan))[0], 0, plan)
        self.assertGreaterEqual(last(stock, (COST, [0], plan))[0], 0, plan)

    def test_the_empty_row(self):
        self.refused([])
        self.refused([], NO_MARKS)

    def test_rows_that_end_too_early(self):
        for end in range(len(ROW)):
            self.refused(ROW[:end])
        self.taken(ROW)

    def test_rows_that_go_on(self):
        for more in ([0], [0, 0], [1], [1, 0, 0, 0, 0], [-1], [64], [3]):
            self.refused(ROW + more)
            self.refused([0, 0] + more)

    def test_marks_that_the_file_has_not(self):
        self.taken([2, 0, 0, 0, 0])
        for number in (3, 4, 7, 64, -1, -2, LOWEST, HIGHEST):
            self.refused([number, 0, 0, 0, 0])
            self.refused([1, number, 0, 0, 0, 0, 0, 0])
            self.refused([1, 0, 0, number, 0, 0, 0, 0])
        self.refused([1, 0, 0, 0, 0], NO_MARKS)
        self.assertEqual(ask(*SIX, (CARD, 0, [6, 0, 1, 0, 2]), (CARD, 0, [7, 0, 1, 0, 2]))[2:], [[1, 1], [-6]])

    def test_numbers_of_piles(self):
        for pile in (0, 1, 62, 63):
            self.taken([0, pile])
            self.taken([1, 0, pile, 0, pile])
        for pile in (64, 65, -1, -64, LOWEST, HIGHEST):
            self.refused([0, pile])
            self.refused([1, 0, pile, 0, 0])
            self.refused([1, 0, 0, 0, pile])

    def test_a_wrong_pile_that_no_notching_comes_to(self):
        self.refused([1, 1, 0, 0, 0, 64, 0, 1])

    def test_3000_needles_without_a_pile(self):
        self.refused([1] * 3000)
        self.refused([1, 2] * 1500)
        self.refused([1] * 3000, NO_MARKS)
        self.assertEqual(last(*SIX, (COST, [0], [1] * 3000)), [-6])
        self.assertEqual(ask(*SIX, (CARD, 0, [6] * 3000), (CARD, 0, [1, 2, 3, 4, 5, 6] * 500))[2:], [[-6], [-6]])

    def test_3000_numbers_that_end_too_early_or_go_on(self):
        self.refused(chain(999)[:-1])
        self.refused(chain(999) + [0])
        self.refused(chain(999)[:-2] + [1])
        self.refused([0, 0] * 1500)

    def test_the_plan_goes_by_the_file_as_it_is_then(self):
        self.assertEqual(ask((CARD, 0, ROW), (FILE, "marks a\nask x a"), (CARD, 0, ROW), (FILE, "marks a b"),
                             (CARD, 0, ROW), (COST, [0], ROW), (PUT, "ask x a and b"), (COST, [0], ROW)),
                         [[-6], [1, 0, 1], [-6], [2, 0, 0], [0, 1], [-4], [0, 1], [1, 0, 2]])

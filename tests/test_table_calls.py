"""The calls that ask the table: hangs, least, labels, deep, together, mean, thumb and cube."""

import unittest

from tests.helper import CUBE, DEEP, DROP, FILE, HANGS, LABELS, LEAST, MEAN, PUT, THUMB, TOGETHER
from tests.helper import ask, last, parity, stock_of

# Two marks: 3 cards are notched at a alone, 5 at b alone, 1 at both, 2 at none.
PAIR = (FILE, "marks a b\ncards 3 a\ncards 5 b\ncards 1 a b\ncards 2\n"
              "ask both a and b\nask any a or b\nask one a\nask other b\nask ever all\nask never none")
NO_MARKS = (FILE, "marks\ncards 4\nask x all\nask y none\nask z not none")
SIX = stock_of(6, [(1, notching) for notching in range(30)], [parity(6), [0] * 63 + [1]])


def only(stock, *calls):
    """The answers to calls that each follow the stock alone."""
    return [last(*stock, one) for one in calls]


class Hangs(unittest.TestCase):
    def hangs(self, question, marks="a b c"):
        return last((FILE, f"marks {marks}\nask x {question}"), (HANGS, 0))

    def test_on_all_some_and_none(self):
        self.assertEqual(self.hangs("a and b and c"), [3, 0, 1, 2])
        self.assertEqual(self.hangs("c or a"), [2, 0, 2])
        self.assertEqual(self.hangs("b"), [1, 1])
        self.assertEqual(self.hangs("not c"), [1, 2])
        self.assertEqual(self.hangs("all"), [0])
        self.assertEqual(self.hangs("none"), [0])

    def test_marks_that_are_named_but_not_hung_on(self):
        self.assertEqual(self.hangs("a or not a"), [0])
        self.assertEqual(self.hangs("a and b or a and not b"), [1, 0])
        self.assertEqual(self.hangs("a and ( b or all )"), [1, 0])
        self.assertEqual(self.hangs("a and b or not a and c or b and c"), [3, 0, 1, 2])

    def test_by_one_pair_of_notchings_alone(self):
        self.assertEqual(self.hangs("a and b and c and d and e and f", "a b c d e f"), [6, 0, 1, 2, 3, 4, 5])
        self.assertEqual(self.hangs("a or b or c or d or e or f", "a b c d e f"), [6, 0, 1, 2, 3, 4, 5])

    def test_no_marks(self):
        self.assertEqual(last(NO_MARKS, (HANGS, 0)), [0])

    def test_the_question_that_is_asked(self):
        self.assertEqual(ask(PAIR, (HANGS, 0), (HANGS, 2), (HANGS, 3), (HANGS, 5))[1:],
                         [[2, 0, 1], [1, 0], [1, 1], [0]])


class Least(unittest.TestCase):
    def test_one_question(self):
        # By b first 11 cards and then 6 that fall, by a first 11 and then 4.
        self.assertEqual(last(PAIR, (LEAST, [0])), [15, 1, 0, 0, 2, 0, 0, 0, 1])
        # Of "a or b" what's lifted is needled on: by a 7 cards, by b 5.
        self.assertEqual(last(PAIR, (LEAST, [1])), [16, 2, 1, 0, 0, 0, 1, 0, 1])
        self.assertEqual(last(PAIR, (LEAST, [2])), [11, 1, 0, 0, 0, 1])
        self.assertEqual(last(PAIR, (LEAST, [3])), [11, 2, 0, 0, 0, 1])

    def test_what_is_lifted_stands_before_what_falls(self):
        self.assertEqual(last((FILE, "marks a b c\ncards 1\nask x a and b or not a and c"), (LEAST, [0])),
                         [2, 1, 3, 0, 0, 0, 1, 2, 0, 0, 0, 1])

    def test_always_and_never(self):
        self.assertEqual(only([PAIR], (LEAST, [4]), (LEAST, [5]), (LEAST, [4, 5]), (LEAST, [5, 4])),
                         [[0, 0, 1], [0, 0, 0], [0, 0, 1], [0, 0, 2]])

    def test_the_bits_follow_the_list(self):
        self.assertEqual(last(PAIR, (LEAST, [2, 3])), [22, 1, 2, 0, 0, 0, 2, 2, 0, 1, 0, 3])
        self.assertEqual(last(PAIR, (LEAST, [3, 2])), [22, 1, 2, 0, 0, 0, 1, 2, 0, 2, 0, 3])
        self.assertEqual(last(PAIR, (LEAST, [5, 2, 4])), [11, 1, 0, 4, 0, 6])
        self.assertEqual(last(PAIR, (LEAST, [5, 4, 3, 2, 1, 0])), [22, 1, 2, 0, 2, 0, 22, 2, 0, 26, 0, 62])

    def test_questions_alike(self):
        alike = (FILE, "marks a\ncards 5 a\nask x a\nask y not not a\nask z not a")
        self.assertEqual(last(alike, (LEAST, [0, 1])), [5, 1, 0, 0, 0, 3])
        self.assertEqual(last(alike, (LEAST, [0, 1, 2])), [5, 1, 0, 4, 0, 3])

    def test_marks_that_part_nothing(self):
        self.assertEqual(last((FILE, "marks a b c\ncards 9 a b\ncards 1\nask x b"), (LEAST, [0])),
                         [10, 2, 0, 0, 0, 1])

    def test_two_marks_that_cost_the_same(self):
        for question in ("a and b", "b and a"):
            self.assertEqual(last((FILE, "marks a b\ncards 4 a\ncards 4 b\nask x " + question), (LEAST, [0])),
                             [12, 1, 0, 0, 2, 0, 0, 0, 1])
        self.assertEqual(last((FILE, "marks b a\ncards 4 a\ncards 4 b\nask x a and b"), (LEAST, [0])),
                         [12, 1, 0, 0, 2, 0, 0, 0, 1])

    def test_no_cards(self):
        # The first open mark is taken, though a parts nothing.
        plan = [0, 1, 2, 0, 0, 0, 1, 2, 0, 0, 0, 1]
        self.assertEqual(last((FILE, "marks a b\nask x b"), (LEAST, [0])), plan)
        self.assertEqual(last((FILE, "marks a b\ncards 0 a\ncards 0\nask x b"), (LEAST, [0])), plan)

    def test_a_cube_without_cards_within_one_with_cards(self):
        # Behind c no card falls: that cube is needled by a, which parts nothing there.
        self.assertEqual(last((FILE, "marks a b c\ncards 5 a b\nask x c and b"), (LEAST, [0])),
                         [5, 3, 0, 0, 1, 2, 0, 0, 0, 1, 2, 0, 0, 0, 1])

    def test_several_lines_of_one_notching(self):
        stock = (FILE, "marks a b\ncards 2 a\ncards 3 b\ncards 2 a\nask x a and b")
        self.assertEqual(last(stock, (LEAST, [0])), [10, 2, 0, 0, 1, 0, 0, 0, 1])

    def test_no_marks_and_six(self):
        self.assertEqual(only([NO_MARKS], (LEAST, [0]), (LEAST, [1]), (LEAST, [0, 1, 2]), (LEAST, [1, 0])),
                         [[0, 0, 1], [0, 0, 0], [0, 0, 5], [0, 0, 2]])
        answer = last(*SIX, (LEAST, [0]))
        self.assertEqual(answer[:9], [180, 1, 2, 3, 4, 5, 6, 0, 0])
        self.assertEqual(len(answer), 1 + 63 + 2 * 64)
        self.assertEqual(last(*SIX, (LEAST, [1])), [30, 6, 0, 0, 1, 0, 0, 2, 0, 0, 3, 0, 0, 4, 0, 0, 5, 0, 0, 0, 1])

    def test_the_file_as_it_is_then(self):
        self.assertEqual(ask((FILE, "marks a\nask x none\nask y a"), (LEAST, [1]), (PUT, "cards 1000000 a"), (LEAST, [1]),
                             (DROP, 0), (LEAST, [0]), (LEAST, [1])),
                         [[1, 0, 2], [0, 1, 0, 0, 0, 1], [1, 2], [1000000, 1, 0, 0, 0, 1], [1],
                          [1000000, 1, 0, 0, 0, 1], [-4]])


class Labels(unittest.TestCase):
    def test_each_cube_in_order(self):
        # Cubes: 0 none, 1 a, 2 a open, 3 b, 4 a b, 5 b with a open, 6 b open, 7 a with b open, 8 both open.
        self.assertEqual(last(PAIR, (LABELS, [0])), [9, 0, 0, 0, 0, 0, 6, 0, 4, 15])
        self.assertEqual(last(PAIR, (LABELS, [1])), [9, 0, 0, 5, 0, 0, 0, 7, 0, 16])
        self.assertEqual(last(PAIR, (LABELS, [0, 1])), [9, 0, 0, 5, 0, 0, 6, 7, 4, 22])
        self.assertEqual(last(PAIR, (LABELS, [4])), [9] + [0] * 9)

    def test_no_cards(self):
        self.assertEqual(last((FILE, "marks a b\nask x b"), (LABELS, [0])), [9] + [0] * 9)

    def test_no_marks_and_six(self):
        self.assertEqual(last(NO_MARKS, (LABELS, [0])), [1, 0])
        answer = last(*SIX, (LABELS, [0]))
        self.assertEqual((answer[0], len(answer), answer[728], answer[729]), (729, 730, 75, 180))
        self.assertEqual(answer[1:4], [0, 0, 2])


class Deep(unittest.TestCase):
    def test_depths(self):
        self.assertEqual(only([PAIR], *[(DEEP, [number]) for number in range(6)]), [[2], [2], [1], [1], [0], [0]])
        self.assertEqual(only([PAIR], (DEEP, [2, 3]), (DEEP, [2, 4]), (DEEP, [4, 5])), [[2], [1], [0]])

    def test_less_deep_than_the_least_plan(self):
        self.assertEqual(last((FILE, "marks a b\nask x b"), (DEEP, [0])), [1])
        # No card is lifted by b: that cube is needled by a, which parts nothing there.
        stock = (FILE, "marks a b c\ncards 4 b\ncards 1 a b c\ncards 4 b c\nask x not b and not c or b and c")
        self.assertEqual(ask(stock, (LEAST, [0]), (DEEP, [0]))[1:],
                         [[18, 2, 1, 3, 0, 1, 0, 0, 3, 0, 1, 0, 0, 3, 0, 0, 0, 1], [2]])

    def test_the_greater_of_the_halves(self):
        self.assertEqual(last((FILE, "marks a b c\nask x a and b and c"), (DEEP, [0])), [3])
        self.assertEqual(last((FILE, "marks a b c\nask x not a and b and c"), (DEEP, [0])), [3])

    def test_no_marks_and_six(self):
        self.assertEqual(last(NO_MARKS, (DEEP, [0, 1])), [0])
        self.assertEqual(only(SIX, (DEEP, [0]), (DEEP, [1]), (DEEP, [1, 0])), [[6], [6], [6]])


class Together(unittest.TestCase):
    def test_all_the_sum_and_the_greatest(self):
        self.assertEqual(only([PAIR], (TOGETHER, [0, 1]), (TOGETHER, [2, 3]), (TOGETHER, [0]), (TOGETHER, [2, 4, 1])),
                         [[22, 31, 16], [22, 22, 11], [15, 15, 15], [18, 27, 16]])
        self.assertEqual(last(PAIR, (TOGETHER, [0, 1, 2, 3, 4, 5])), [22, 53, 16])
        self.assertEqual(last(PAIR, (TOGETHER, [5, 3, 1, 2, 0, 4])), [22, 53, 16])

    def test_nothing_to_part(self):
        self.assertEqual(only([PAIR], (TOGETHER, [4]), (TOGETHER, [5, 4])), [[0, 0, 0], [0, 0, 0]])
        self.assertEqual(last(NO_MARKS, (TOGETHER, [0, 1, 2])), [0, 0, 0])
        self.assertEqual(last((FILE, "marks a b\ncards 0 b\nask x b\nask y a"), (TOGETHER, [0, 1])), [0, 0, 0])

    def test_questions_alike(self):
        self.assertEqual(last((FILE, "marks a\ncards 5 a\nask x a\nask y not a"), (TOGETHER, [0, 1])), [5, 10, 5])

    def test_six_marks(self):
        self.assertEqual(last(*SIX, (TOGETHER, [0, 1])), [180, 210, 180])


class Mean(unittest.TestCase):
    def test_lowest_terms(self):
        self.assertEqual(only([PAIR], (MEAN, [0]), (MEAN, [1]), (MEAN, [2]), (MEAN, [2, 3])),
                         [[15, 11], [16, 11], [1, 1], [2, 1]])
        self.assertEqual(last((FILE, "marks a b\ncards 4 a\ncards 4 b\nask x a and b"), (MEAN, [0])), [3, 2])
        self.assertEqual(last((FILE, "marks a b\ncards 6\ncards 3 a\nask x a or b"), (MEAN, [0])), [5, 3])

    def test_nothing_to_part(self):
        self.assertEqual(only([PAIR], (MEAN, [4]), (MEAN, [5, 4])), [[0, 1], [0, 1]])
        self.assertEqual(last(NO_MARKS, (MEAN, [0])), [0, 1])

    def test_no_card_is_needled_twice(self):
        self.assertEqual(last((FILE, "marks a b\ncards 0 b\ncards 1 b\nask x b and a"), (MEAN, [0])), [1, 1])

    def test_six_marks(self):
        self.assertEqual(only(SIX, (MEAN, [0]), (MEAN, [1])), [[6, 1], [1, 1]])
        self.assertEqual(last((FILE, "marks a b" + "\ncards 1000000 a" * 29 + "\ncards 999999\nask x a or b"),
                              (MEAN, [0])), [30999998, 29999999])


class Thumb(unittest.TestCase):
    def test_the_greater_half_is_least(self):
        # Of 11 cards 4 are notched at a (greater half 7) and 6 at b (greater half 6).
        self.assertEqual(last(PAIR, (THUMB, [0])), [17, 2, 0, 0, 1, 0, 0, 0, 1])
        self.assertEqual(last(PAIR, (THUMB, [1])), [16, 2, 1, 0, 0, 0, 1, 0, 1])

    def test_a_mark_that_parts_no_answers(self):
        self.assertEqual(last(PAIR, (THUMB, [2])), [22, 2, 1, 0, 0, 0, 1, 1, 0, 0, 0, 1])
        self.assertEqual(last((FILE, "marks a b\ncards 5 a\ncards 5\nask x b"), (THUMB, [0])),
                         [20, 1, 2, 0, 0, 0, 1, 2, 0, 0, 0, 1])

    def test_the_first_such_mark(self):
        self.assertEqual(last((FILE, "marks a b c\ncards 4 a\ncards 4 b\nask x b and a"), (THUMB, [0])),
                         [12, 1, 0, 0, 2, 0, 0, 0, 1])
        self.assertEqual(last((FILE, "marks a b\nask x b"), (THUMB, [0])), [0, 1, 2, 0, 0, 0, 1, 2, 0, 0, 0, 1])

    def test_lifted_or_fallen_may_be_greater(self):
        for notched in ("", " a"):
            other = "" if notched else " a"
            stock = (FILE, f"marks a b\ncards 6{notched} b\ncards 1{other}\ncards 1{notched}\nask x a and b")
            self.assertEqual(last(stock, (THUMB, [0]))[1], 2, stock)

    def test_till_there_is_an_answer(self):
        self.assertEqual(only([PAIR], (THUMB, [4]), (THUMB, [5]), (THUMB, [5, 4])), [[0, 0, 1], [0, 0, 0], [0, 0, 2]])

    def test_the_bits_follow_the_list(self):
        self.assertEqual(only([PAIR], (THUMB, [3, 4]), (THUMB, [4, 3])), [[11, 2, 0, 2, 0, 3], [11, 2, 0, 1, 0, 3]])

    def test_no_marks_and_six(self):
        self.assertEqual(last(NO_MARKS, (THUMB, [2, 1])), [0, 0, 1])
        answer = last(*SIX, (THUMB, [0]))
        self.assertEqual((answer[0], len(answer)), (180, 192))


class Cube(unittest.TestCase):
    def test_with_an_answer(self):
        self.assertEqual(only([PAIR], *[(CUBE, number, [0]) for number in (0, 1, 2, 3, 4, 6)]),
                         [[1, 0, 2, 0, 0], [1, 0, 3, 0, 0], [1, 0, 5, 0, 0], [1, 0, 5, 0, 0], [1, 1, 1, 0, 0],
                          [1, 0, 7, 0, 0]])
        self.assertEqual(only([PAIR], (CUBE, 8, [4]), (CUBE, 8, [5, 4]), (CUBE, 7, [3, 2, 1]), (CUBE, 4, [0, 5, 1])),
                         [[1, 1, 11, 0, 0], [1, 2, 11, 0, 0], [0, 1, 4, 4, 1], [1, 5, 1, 0, 0]])

    def test_without_an_answer(self):
        self.assertEqual(only([PAIR], (CUBE, 5, [0]), (CUBE, 7, [0]), (CUBE, 8, [0]), (CUBE, 8, [1]), (CUBE, 8, [3])),
                         [[0, 0, 6, 6, 1], [0, 1, 4, 4, 1], [0, 0, 11, 15, 2], [0, 1, 11, 16, 2], [0, 1, 11, 11, 1]])

    def test_without_cards(self):
        self.assertEqual(last((FILE, "marks a b\nask x b"), (CUBE, 8, [0])), [0, 0, 0, 0, 1])
        stock = (FILE, "marks a b c\ncards 5 a b\nask x c and b")
        # With c notched there are no cards (cube 17), with b notched there are (cube 23).
        self.assertEqual(only([stock], (CUBE, 17, [0]), (CUBE, 26, [0]), (CUBE, 23, [0])),
                         [[0, 0, 0, 0, 1], [0, 2, 5, 5, 2], [0, 2, 5, 5, 1]])

    def test_the_mark_is_the_first_of_those_that_cost_the_same(self):
        self.assertEqual(last((FILE, "marks a b\ncards 4 a\ncards 4 b\nask x a and b"), (CUBE, 8, [0])),
                         [0, 0, 8, 12, 2])

    def test_depth_by_another_mark_than_cost(self):
        # The card costs 2 by b first as by c first, but only by c first no way is deeper than 2.
        stock = (FILE, "marks a b c\ncards 1 b c\nask x not c and not a or c and not b")
        self.assertEqual(last(stock, (CUBE, 26, [0])), [0, 1, 1, 2, 2])

    def test_no_marks_and_six(self):
        self.assertEqual(only([NO_MARKS], (CUBE, 0, [0]), (CUBE, 0, [1]), (CUBE, 0, [0, 1, 2])),
                         [[1, 1, 4, 0, 0], [1, 0, 4, 0, 0], [1, 5, 4, 0, 0]])
        self.assertEqual(only(SIX, (CUBE, 728, [0]), (CUBE, 0, [0]), (CUBE, 1, [0]), (CUBE, 727, [0]), (CUBE, 728, [1])),
                         [[0, 0, 30, 180, 6], [1, 0, 1, 0, 0], [1, 1, 1, 0, 0], [0, 1, 15, 75, 5], [0, 5, 30, 30, 6]])

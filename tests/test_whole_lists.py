"""Lists with several of the calls 11 to 21: their form, that nothing is changed or kept, and how long they take."""

import random
import time
import unittest

from notchedcards.needles import answers
from tests.helper import ACCEPT, CARD, CLEAR, COST, CUBE, DEEP, DROP, FILE, HANGS, LABELS, LEAST, MEAN, PUT, TEXT
from tests.helper import TABLE_CALLS, THUMB, TOGETHER, TOLD
from tests.helper import ask, bytes_of, call, taken_apart

STOCK = (FILE, "marks a b\ncards 3 a\ncards 5 b\ncards 1 a b\ncards 2\nask both a and b\nask any a or b\nask one a")
ROW = [1, 0, 0, 2, 0, 0, 0, 1]
EVERY = [(HANGS, 0), (LEAST, [0, 2]), (COST, [0], ROW), (LABELS, [1]), (ACCEPT, [0], [0, 0, 0, 0, 0, 6, 0, 4, 15]),
         (DEEP, [0, 1]), (CARD, 3, ROW), (TOGETHER, [0, 1]), (MEAN, [0]), (THUMB, [0]), (CUBE, 8, [0])]
REFUSED = [(HANGS, 3), (LEAST, []), (COST, [0], []), (LABELS, [3]), (ACCEPT, [0], []), (DEEP, [0, 0]), (CARD, 4, ROW),
           (TOGETHER, [-1]), (MEAN, [6]), (THUMB, [0, 1, 2, 3]), (CUBE, 9, [0])]


class Numbers(unittest.TestCase):
    def test_the_form_of_what_is_given_back(self):
        text = bytes_of("marks a\ncards 4 a\nask x a")
        calls = [1, len(text)] + text + [
            11, 0,
            12, 1, 0,
            13, 1, 0, 5, 1, 0, 0, 0, 1,
            13, 1, 0, 2, 0, 0,
            14, 1, 0,
            15, 1, 0, 3, 0, 0, 4,
            15, 1, 0, 3, 0, 1, 4,
            16, 1, 0,
            17, 1, 2, 0, 9,
            18, 1, 0,
            19, 1, 0,
            20, 1, 0,
            21, 2, 1, 0,
            21, 1, 1, 0,
            12, 0,
            17, 0, 0,
            15, 0, 0]
        self.assertEqual(answers(calls), [
            3, 1, 1, 1,
            2, 1, 0,
            6, 4, 1, 0, 0, 0, 1,
            3, 1, 4, 1,
            4, 0, 1, 0, 0,
            4, 3, 0, 0, 4,
            2, 1, 4,
            2, 0, 1,
            1, 1,
            2, 9, 0,
            3, 4, 4, 4,
            2, 1, 1,
            6, 4, 1, 0, 0, 0, 1,
            5, 0, 0, 4, 4, 1,
            5, 1, 1, 4, 0, 0,
            1, -4,
            1, -6,
            1, -4])

    def test_every_call_in_one_list(self):
        self.assertEqual(ask(STOCK, *EVERY)[1:], [
            [2, 0, 1], [15, 1, 0, 0, 2, 0, 2, 0, 3], [1, 15, 2], [9, 0, 0, 5, 0, 0, 0, 7, 0, 16], [1, 15], [2], [1, 2],
            [22, 31, 16], [15, 11], [17, 2, 0, 0, 1, 0, 0, 0, 1], [0, 0, 11, 15, 2]])

    def test_refusals_between_the_calls(self):
        mixed = [one for pair in zip(EVERY, REFUSED) for one in pair]
        answered = ask(STOCK, *mixed)[1:]
        self.assertEqual(answered[::2], ask(STOCK, *EVERY)[1:])
        self.assertEqual(answered[1::2], [[-5], [-4], [-6], [-4], [-6], [-4], [-5], [-4], [-4], [-4], [-5]])

    def test_each_call_leaves_the_file_as_it_is(self):
        before = ask(STOCK, (TOLD,), (TEXT,))[1:]
        for one in EVERY + REFUSED:
            self.assertEqual(ask(STOCK, one, (TOLD,), (TEXT,))[2:], before)
            self.assertEqual(ask(STOCK, one, one)[1], ask(STOCK, one, one)[2])

    def test_between_calls_that_change_the_file(self):
        self.assertEqual(
            ask(STOCK, (LEAST, [2]), (PUT, "cards 9 b"), (LEAST, [2]), (DROP, 0), (LEAST, [2]), (LEAST, [1]), (CLEAR,),
                (LEAST, [1]), (CARD, 0, [0, 3]), (PUT, "ask x all"), (LABELS, [0]), (CUBE, 0, [0]))[1:],
            [[11, 1, 0, 0, 0, 1], [5, 3], [20, 1, 0, 0, 0, 1], [2], [-4], [20, 1, 0, 0, 0, 1], [0],
             [-4], [3, 0], [0, 1], [1, 0], [1, 1, 0, 0, 0]])


class NothingKept(unittest.TestCase):
    def calls(self):
        return [number for one in [STOCK] + EVERY + REFUSED[::2] for number in call(*one)]

    def test_what_is_handed_in_stays_and_a_second_run_answers_the_same(self):
        calls = self.calls()
        first = answers(calls)
        kept = list(first)
        self.assertEqual(calls, self.calls())
        self.assertEqual(answers(calls), kept)
        self.assertEqual(first, kept)
        self.assertEqual(ask((LEAST, [0]), (CARD, 1, [0, 0]), (HANGS, 0)), [[-4], [-5], [-5]])

    def test_what_is_handed_in_is_not_changed_for_a_while_either(self):
        calls = Watched(self.calls())
        self.assertEqual(answers(calls), answers(self.calls()))
        self.assertEqual(list(calls), self.calls())

    def test_a_given_back_list_that_is_changed_changes_no_later_answer(self):
        first = answers(self.calls())
        kept = list(first)
        first.clear()
        self.assertEqual(answers(self.calls()), kept)

    def test_what_is_given_back_is_a_list_of_ints(self):
        answered = answers(self.calls())
        self.assertIs(type(answered), list)
        self.assertEqual({type(number) for number in answered}, {int})


class Watched(list):
    """A list that refuses to be changed."""

    def refuse(self, *arguments):
        raise AssertionError("the list that was handed in is changed")

    append = clear = extend = insert = pop = remove = reverse = sort = refuse
    __setitem__ = __delitem__ = __iadd__ = __imul__ = refuse


class InReasonableTime(unittest.TestCase):
    """The bounds are wide, for slow machines: a line takes a fraction of a second."""

    def stock(self):
        """Short enough for 20 times 729 labels beside it."""
        chance = random.Random(30)
        lines = ["cards " + " ".join([str(chance.randint(0, 999))] + [mark for mark in "abcdef" if chance.random() < 0.4])
                 for line in range(30)]
        questions = ["a and b or c and d", "not ( e or f )", "a and not f or b and f", "c", "d and e or d and a or f",
                     "not a and not b or e"]
        told = ["marks a b c d e f"] + lines + [f"ask {name} {said}" for name, said in zip("abcdef", questions)]
        return (FILE, "\n".join(told))

    def took(self, calls):
        numbers = [number for one in calls for number in call(*one)]
        self.assertLessEqual(len(numbers), 16000)
        begin = time.perf_counter()
        answered = taken_apart(answers(numbers))
        self.assertLess(time.perf_counter() - begin, 30)
        return answered

    def test_20_calls_of_one_kind(self):
        questions = [3, 1, 5, 0, 2, 4]
        rows = {ACCEPT: (questions, [0] * 729), CUBE: (728, questions)}
        for number in TABLE_CALLS:
            answered = self.took([self.stock()] + [(number, *rows.get(number, (questions,)))] * 20)
            self.assertEqual(len(answered), 21)
            self.assertGreaterEqual(answered[-1][0], 0)
            self.assertEqual(answered[1:], [answered[-1]] * 20)

    def test_20_calls_of_all_kinds(self):
        questions = [3, 1, 5, 0, 2, 4]
        some = [(LEAST, questions), (LABELS, questions), (ACCEPT, questions, [0] * 729), (DEEP, questions),
                (TOGETHER, questions), (MEAN, questions), (THUMB, questions), (CUBE, 728, questions)]
        answered = self.took([self.stock()] + some + some + some[:4])
        self.assertEqual(answered[0], [6, 30, 6])
        self.assertEqual(answered[1:9], answered[9:17])
        self.assertTrue(all(answer[0] >= 0 for answer in answered))

    def test_long_plans(self):
        plan = [6, 0, 0] * 999 + [0, 1]
        answered = self.took([self.stock(), (COST, [0], plan), (CARD, 63, plan), (CARD, 63, [6] * 3000)])
        self.assertEqual(answered[1][-1], 999)
        self.assertEqual(answered[2:], [[1, 999], [-6]])

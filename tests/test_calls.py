"""The calls 0 to 10 on ordinary inputs."""

import unittest

from notchedcards.needles import answers
from tests.helper import CLEAR, DROP, EQUAL, FALLS, FILE, LOOK, PUT, TEXT, TOLD, TRUTH, WITHIN
from tests.helper import ask, bytes_of, call, last, text_answer

STOCK = ("marks red round old\ncards 5 red\ncards 7 red old\ncards 0 round\ncards 3\ncards 2 red\n"
         "ask x red and not old\nask y red\nask z old or round\nask w not ( round or old ) and red")


class Numbers(unittest.TestCase):
    def test_the_form_of_what_is_given_back(self):
        text = bytes_of("marks a\ncards 2 a\nask q a")
        calls = [1, len(text)] + text + [6, 7, 0, 8, 0, 9, 0, 0, 8, 3, 8, 6, 3, 0, 3]
        self.assertEqual(answers(calls), [
            3, 1, 1, 1,
            4, 1, 1, 1, 2,
            3, 2, 0, 1,
            2, 2, 2,
            1, 1,
            1, -5,
            1, -3,
            len(text) + 1, 0] + text + [
            1, 0,
            6, 0] + bytes_of("marks"))

    def test_a_list_with_several_calls(self):
        self.assertEqual(ask(
            (TOLD,), (FILE, STOCK), (TOLD,), (FALLS, 0), (PUT, "cards 10 red round"), (FALLS, 0), (DROP, 1),
            (TOLD,), (EQUAL, 0, 2), (LOOK, "x"), (CLEAR,), (FALLS, 0), (TOLD,)),
            [[0, 0, 0, 0], [3, 5, 4], [3, 5, 4, 17], [7, 17], [6, 4], [17, 27], [3],
             [3, 6, 3, 27], [0, 3], [1, 0], [0], [-5], [0, 0, 0, 0]])

    def test_what_is_handed_in_stays_and_a_second_run_answers_the_same(self):
        calls = call(FILE, STOCK) + call(PUT, "cards 1 old") + call(DROP, 0) + call(TEXT) + call(TRUTH, 0)
        calls += call(PUT, "cards x") + call(LOOK, STOCK) + call(EQUAL, 0, 1) + call(WITHIN, 7, 0)
        before = list(calls)
        first = answers(calls)
        kept = list(first)
        self.assertEqual(calls, before)
        self.assertEqual(answers(calls), kept)
        self.assertEqual(first, kept)
        self.assertEqual(ask((TOLD,)), [[0, 0, 0, 0]])

    def test_what_is_given_back_is_a_list_of_ints(self):
        answered = answers(call(FILE, STOCK) + call(TRUTH, 0) + call(EQUAL, 0, 1) + call(WITHIN, 0, 1) + call(TEXT))
        self.assertIs(type(answered), list)
        self.assertEqual({type(number) for number in answered}, {int})

    def test_a_given_back_list_that_is_changed_changes_no_later_answer(self):
        calls = call(FILE, STOCK) + call(TRUTH, 0) + call(TEXT)
        first = answers(calls)
        kept = list(first)
        first.clear()
        self.assertEqual(answers(calls), kept)


class Clear(unittest.TestCase):
    def test_as_at_the_beginning(self):
        self.assertEqual(ask((CLEAR,), (TOLD,), (TEXT,)), [[0], [0, 0, 0, 0], text_answer("marks")])
        self.assertEqual(ask((FILE, STOCK), (CLEAR,), (TOLD,), (TEXT,))[1:],
                         [[0], [0, 0, 0, 0], text_answer("marks")])

    def test_names_and_marks_are_gone(self):
        self.assertEqual(ask((FILE, STOCK), (CLEAR,), (PUT, "ask x red"), (PUT, "ask x all"))[1:],
                         [[0], [-1006], [0, 1]])


class File(unittest.TestCase):
    def test_counts(self):
        self.assertEqual(last((FILE, STOCK)), [3, 5, 4])
        self.assertEqual(last((FILE, "marks")), [0, 0, 0])
        self.assertEqual(last((FILE, "marks\nask x all\ncards 4")), [0, 1, 1])

    def test_the_later_file_takes_the_place_of_the_first(self):
        self.assertEqual(ask((FILE, STOCK), (FILE, "marks b\nask x b"), (TOLD,), (TRUTH, 0), (TRUTH, 1)),
                         [[3, 5, 4], [1, 0, 1], [1, 0, 1, 0], [2, 0, 1], [-5]])


class Look(unittest.TestCase):
    def test_answers(self):
        self.assertEqual(last((LOOK, STOCK)), [0])
        self.assertEqual(last((LOOK, "marks")), [0])
        self.assertEqual(last((LOOK, "marks a\ncards 5 b")), [1, 16])
        self.assertEqual(last((LOOK, "cards 5")), [1, 0])

    def test_changes_nothing(self):
        self.assertEqual(ask((FILE, STOCK), (LOOK, "marks b"), (TOLD,), (LOOK, "b"), (TOLD,)),
                         [[3, 5, 4], [0], [3, 5, 4, 17], [1, 0], [3, 5, 4, 17]])

    def test_the_file_on_the_desk_does_not_count(self):
        self.assertEqual(last((FILE, "marks a\nask x a"), (LOOK, "marks b\nask x b")), [0])
        self.assertEqual(last((FILE, "marks a\nask x a"), (LOOK, "marks b\nask x a")), [1, 14])


class Put(unittest.TestCase):
    def test_behind_the_others_of_its_sort(self):
        self.assertEqual(
            ask((FILE, "marks a b\ncards 1 a\nask x a"), (PUT, "cards 2 b"), (PUT, "ask y b"), (PUT, "cards 3"),
                (TEXT,), (TRUTH, 1), (TOLD,)),
            [[2, 1, 1], [2, 1], [2, 2], [3, 2],
             text_answer("marks a b\ncards 1 a\ncards 2 b\ncards 3\nask x a\nask y b"),
             [4, 0, 0, 1, 1], [2, 3, 2, 6]])

    def test_on_an_empty_file(self):
        self.assertEqual(ask((PUT, "cards 9"), (PUT, "ask x none"), (FALLS, 0), (TRUTH, 0)),
                         [[1, 0], [1, 1], [0, 9], [1, 0]])

    def test_the_file_may_grow_longer_than_a_text(self):
        long = "ask {} " + " or ".join(["a"] * 390)
        answered = ask((FILE, "marks a"), *[(PUT, long.format(name)) for name in "abc"], (TEXT,))
        self.assertEqual(answered[-1], text_answer("marks a\n" + "\n".join(long.format(name) for name in "abc")))


class Drop(unittest.TestCase):
    def test_those_behind_are_called_by_one_less(self):
        self.assertEqual(
            ask((FILE, STOCK), (DROP, 1), (TEXT,), (TRUTH, 1), (TRUTH, 3), (DROP, 2), (DROP, 0), (DROP, 0), (DROP, 0)),
            [[3, 5, 4], [3],
             text_answer("marks red round old\ncards 5 red\ncards 7 red old\ncards 0 round\ncards 3\ncards 2 red\n"
                         "ask x red and not old\nask z old or round\nask w not ( round or old ) and red"),
             [8, 0, 0, 1, 1, 1, 1, 1, 1], [-5], [2], [1], [0], [-5]])

    def test_its_name_is_free_again(self):
        self.assertEqual(ask((FILE, "marks\nask x all\nask y none"), (PUT, "ask x all"), (DROP, 0),
                             (PUT, "ask x none"), (TEXT,))[1:],
                         [[-1004], [1], [0, 2], text_answer("marks\nask y none\nask x none")])


class Told(unittest.TestCase):
    def test_counts_cards_of_all_lines(self):
        self.assertEqual(last((FILE, STOCK), (TOLD,)), [3, 5, 4, 17])
        self.assertEqual(last((TOLD,)), [0, 0, 0, 0])
        self.assertEqual(last((FILE, "marks" + "\ncards 1000000" * 30), (TOLD,)), [0, 30, 0, 30000000])


class Truth(unittest.TestCase):
    def truth(self, question, marks="a b c"):
        return last((FILE, f"marks {marks}\nask x {question}"), (TRUTH, 0))

    def test_marks_in_the_order_of_notchings(self):
        self.assertEqual(self.truth("a"), [8, 0, 1, 0, 1, 0, 1, 0, 1])
        self.assertEqual(self.truth("b"), [8, 0, 0, 1, 1, 0, 0, 1, 1])
        self.assertEqual(self.truth("c"), [8, 0, 0, 0, 0, 1, 1, 1, 1])

    def test_all_and_none(self):
        self.assertEqual(self.truth("all"), [8] + [1] * 8)
        self.assertEqual(self.truth("none"), [8] + [0] * 8)

    def test_no_marks_and_six(self):
        self.assertEqual(last((PUT, "ask x all"), (TRUTH, 0)), [1, 1])
        self.assertEqual(self.truth("f", "a b c d e f"), [64] + [0] * 32 + [1] * 32)

    def test_joints_and_what_binds_first(self):
        self.assertEqual(self.truth("not a"), [8, 1, 0, 1, 0, 1, 0, 1, 0])
        self.assertEqual(self.truth("a and b"), [8, 0, 0, 0, 1, 0, 0, 0, 1])
        self.assertEqual(self.truth("a or b"), [8, 0, 1, 1, 1, 0, 1, 1, 1])
        self.assertEqual(self.truth("not a and b"), [8, 0, 0, 1, 0, 0, 0, 1, 0])
        self.assertEqual(self.truth("not ( a and b )"), [8, 1, 1, 1, 0, 1, 1, 1, 0])
        self.assertEqual(self.truth("not a or b"), [8, 1, 0, 1, 1, 1, 0, 1, 1])
        self.assertEqual(self.truth("a or b and c"), [8, 0, 1, 0, 1, 0, 1, 1, 1])
        self.assertEqual(self.truth("a and b or c"), [8, 0, 0, 0, 1, 1, 1, 1, 1])
        self.assertEqual(self.truth("( a or b ) and c"), [8, 0, 0, 0, 0, 0, 1, 1, 1])
        self.assertEqual(self.truth("not not a"), [8, 0, 1, 0, 1, 0, 1, 0, 1])


class Falls(unittest.TestCase):
    def test_lines_of_one_notching_count_together(self):
        self.assertEqual(ask((FILE, STOCK), (FALLS, 0), (FALLS, 1), (FALLS, 2), (FALLS, 3))[1:],
                         [[7, 17], [14, 17], [7, 17], [7, 17]])

    def test_without_cards(self):
        self.assertEqual(last((FILE, "marks a\nask x all"), (FALLS, 0)), [0, 0])


class Equal(unittest.TestCase):
    def test_answers(self):
        stock = (FILE, "marks a b\nask x a and b\nask y not ( not a or not b )\nask z a\nask w b\nask v not a")
        self.assertEqual(last(stock, (EQUAL, 0, 1)), [1])
        self.assertEqual(last(stock, (EQUAL, 0, 0)), [1])
        self.assertEqual(last(stock, (EQUAL, 0, 2)), [0, 1])
        self.assertEqual(last(stock, (EQUAL, 2, 0)), [0, 1])
        self.assertEqual(last(stock, (EQUAL, 0, 3)), [0, 2])
        self.assertEqual(last(stock, (EQUAL, 2, 4)), [0, 0])

    def test_unlike_at_the_last_notching_alone(self):
        self.assertEqual(last((FILE, "marks a b c d e f\nask x none\nask y a and b and c and d and e and f"),
                              (EQUAL, 0, 1)), [0, 63])


class Within(unittest.TestCase):
    def test_answers(self):
        stock = (FILE, "marks a b\nask x a and b\nask y a\nask z b\nask w none\nask v all")
        self.assertEqual(last(stock, (WITHIN, 0, 1)), [1])
        self.assertEqual(last(stock, (WITHIN, 1, 0)), [0, 1])
        self.assertEqual(last(stock, (WITHIN, 2, 0)), [0, 2])
        self.assertEqual(last(stock, (WITHIN, 1, 1)), [1])
        self.assertEqual(last(stock, (WITHIN, 3, 0)), [1])
        self.assertEqual(last(stock, (WITHIN, 0, 3)), [0, 3])
        self.assertEqual(last(stock, (WITHIN, 4, 3)), [0, 0])
        self.assertEqual(last(stock, (WITHIN, 0, 4)), [1])

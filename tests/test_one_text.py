"""The one text of a file."""

import unittest

from tests.helper import DROP, FILE, PUT, TEXT, TOLD, TRUTH
from tests.helper import ask, last, one_text, text_answer


class Order(unittest.TestCase):
    def test_marks_cards_questions(self):
        self.assertEqual(one_text("marks b a\nask y a\ncards 3 a\nask x b\ncards 0\ncards 3 b a"),
                         "marks b a\ncards 3 a\ncards 0\ncards 3 b a\nask y a\nask x b")

    def test_files_without_one_sort(self):
        for text in ("marks", "marks a", "marks\ncards 1000000", "marks\nask x all", "marks a\ncards 0 a\ncards 0 a"):
            self.assertEqual(one_text(text), text)

    def test_before_any_file(self):
        self.assertEqual(ask((TEXT,)), [text_answer("marks")])

    def test_after_put_and_drop(self):
        self.assertEqual(last((FILE, "marks a\nask x a\ncards 1"), (PUT, "ask y ( not a )"), (PUT, "cards 2 a"),
                              (DROP, 0), (TEXT,)),
                         text_answer("marks a\ncards 1\ncards 2 a\nask y not a"))


class Brackets(unittest.TestCase):
    def spoken(self, question):
        text = one_text("marks a b c d\nask x " + question)
        self.assertTrue(text.startswith("marks a b c d\nask x "))
        return text[len("marks a b c d\nask x "):]

    def test_where_they_stand(self):
        for question in (
                "( a or b ) and c", "a and ( b or c )", "( a or b ) and ( c or d )", "not ( a or b )",
                "a or ( b or c )", "not ( a and b )", "a and ( b and c )", "a or b and ( c and d )",
                "not ( a and ( b or c ) )", "a or ( b or ( c or d ) )", "( a or ( b or c ) ) and d",
                "not not ( a or b )", "not ( not ( a and b ) or c )"):
            self.assertEqual(self.spoken(question), question)

    def test_where_they_do_not_stand(self):
        for question, spoken in (
                ("( a )", "a"),
                ("( ( all ) )", "all"),
                ("( none )", "none"),
                ("( a or b )", "a or b"),
                ("( a and b )", "a and b"),
                ("( not a )", "not a"),
                ("not ( a )", "not a"),
                ("not ( not a )", "not not a"),
                ("not ( all )", "not all"),
                ("( a or b ) or c", "a or b or c"),
                ("( a and b ) and c", "a and b and c"),
                ("( a and b ) or c", "a and b or c"),
                ("a or ( b and c )", "a or b and c"),
                ("( not a ) and ( not b )", "not a and not b"),
                ("a or ( not b )", "a or not b"),
                ("( ( a or b ) or c ) or d", "a or b or c or d"),
                ("( ( a or b ) ) and c", "( a or b ) and c"),
                ("( a or ( ( b or c ) ) )", "a or ( b or c )"),
                ("( a and ( b ) and ( ( c and d ) ) )", "a and b and ( c and d )"),
                ("not ( ( a and b ) )", "not ( a and b )"),
                ("( not ( a or b ) )", "not ( a or b )"),
                ("( a and b ) or ( c and d )", "a and b or c and d")):
            self.assertEqual(self.spoken(question), spoken)

    def test_long_chains(self):
        for joint in (" or ", " and "):
            chain = joint.join(["a"] * 280)
            self.assertEqual(self.spoken(chain), chain)
        left = "( " * 8 + "a" + " or b )" * 8 + " or c" * 340
        self.assertEqual(self.spoken(left), "a" + " or b" * 8 + " or c" * 340)


class ReadBack(unittest.TestCase):
    def test_to_the_same_file(self):
        text = ("marks marks cards ask\nask and ask and ( marks or ( cards or marks ) )\ncards 12 cards ask\n"
                "ask or not ( not ( marks and cards ) or ask )\ncards 0\nask x ( ( all and none ) and ask ) or ( all )")
        once = one_text(text)
        calls = [(TOLD,), (TEXT,), (TRUTH, 0), (TRUTH, 1), (TRUTH, 2)]
        self.assertEqual(one_text(once), once)
        self.assertEqual(ask((FILE, once), *calls), ask((FILE, text), *calls))

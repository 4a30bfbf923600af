"""The grammar of a file's text: its edges, and the place of its fault."""

import unittest

from tests.helper import FALLS, FILE, PUT, TOLD, TRUTH
from tests.helper import ask, last, look

JOINTS = ("and", "or", "not", "all", "none")


class TextCase(unittest.TestCase):
    def right(self, text):
        self.assertIsNone(look(text), text)
        self.assertGreaterEqual(last((FILE, text))[0], 0)

    def fault(self, text, place):
        """place: a number, or what stands before the fault."""
        place = place if isinstance(place, int) else len(place)
        self.assertEqual(look(text), place, text)
        self.assertEqual(last((FILE, text)), [-1000 - place], text)

    def put_fault(self, line, place, before="marks a b"):
        place = place if isinstance(place, int) else len(place)
        self.assertEqual(last((FILE, before), (PUT, line)), [-1000 - place], line)


class Marks(TextCase):
    def test_none_and_six_and_a_seventh(self):
        self.right("marks")
        self.right("marks a")
        self.right("marks a b c d e f")
        self.assertEqual(last((FILE, "marks a b c d e f")), [6, 0, 0])
        self.fault("marks a b c d e f g", "marks a b c d e f ")
        self.fault("marks a b c d e f a", "marks a b c d e f ")

    def test_told_twice(self):
        self.fault("marks a b a", "marks a b ")
        self.fault("marks a a", "marks a ")

    def test_letters(self):
        self.right("marks abcdefghijkl")
        self.fault("marks abcdefghijklm", "marks ")
        self.right("marks a ab zzzzzzzzzzzz")
        for word in ("A", "a1", "1", "a-b", "(", ")", "a.", "\xe4", "a\t"):
            self.fault("marks q " + word, "marks q ")

    def test_words_that_are_no_marks(self):
        for word in JOINTS:
            self.fault("marks " + word, "marks ")
            self.fault("marks a " + word + " b", "marks a ")
            self.right("marks x" + word)

    def test_marks_cards_and_ask_are_marks(self):
        text = "marks marks cards ask\ncards 4 marks cards\ncards 2 ask\nask ask ask or cards and marks"
        self.right(text)
        self.assertEqual(ask((FILE, text), (TRUTH, 0), (FALLS, 0)),
                         [[3, 2, 1], [8, 0, 0, 0, 1, 1, 1, 1, 1], [6, 6]])
        self.assertEqual(last((FILE, "marks cards\ncards 4 cards"), (TOLD,)), [1, 1, 0, 4])

    def test_the_first_word(self):
        for text in ("mark", "markss", "cards 1", "ask x all", "a", "Marks", "marks1 a", "(marks"):
            self.fault(text, 0)
        self.fault("marks a\nmarks b", "marks a\n")


class Cards(TextCase):
    def test_numbers(self):
        for number in ("0", "1", "9", "10", "999999", "1000000"):
            self.right("marks\ncards " + number)
            self.assertEqual(last((FILE, "marks\ncards " + number), (TOLD,)), [0, 1, 0, int(number)])
        for word in ("1000001", "9999999", "10000000", "1" * 400, "00", "01", "00000001", "01000000", "-1", "+1",
                     "1.", "1a", "a", "1_0", "\xb2", "one", "(", "all"):
            self.fault("marks a\ncards " + word, "marks a\ncards ")
            self.fault("marks a\ncards " + word + " a", "marks a\ncards ")
            self.put_fault("cards " + word, "cards ")

    def test_marks_out_of_order_or_twice(self):
        self.right("marks a b c\ncards 1 a b c\ncards 1 a c\ncards 1 b\ncards 1\ncards 1 b c")
        self.fault("marks a b c\ncards 1 b a", "marks a b c\ncards 1 b ")
        self.fault("marks a b c\ncards 1 a c b", "marks a b c\ncards 1 a c ")
        self.fault("marks a b c\ncards 1 a a", "marks a b c\ncards 1 a ")
        self.fault("marks a b c\ncards 1 a b c c", "marks a b c\ncards 1 a b c ")
        self.fault("marks a b c\ncards 1 d", "marks a b c\ncards 1 ")
        self.fault("marks a b c\ncards 1 a all", "marks a b c\ncards 1 a ")
        self.fault("marks\ncards 1 a", "marks\ncards 1 ")

    def test_the_notching(self):
        text = "marks a b c\ncards 1 a b c\ncards 10 a c\ncards 100 b\ncards 1000"
        for question, cards in (("a", 11), ("b", 101), ("c", 11), ("not a", 1100), ("a and not b", 10)):
            self.assertEqual(last((FILE, text), (PUT, "ask x " + question), (FALLS, 0)), [cards, 1111])

    def test_30_lines_and_a_31st(self):
        full = "marks a" + "\ncards 1 a" * 30
        self.right(full)
        self.right(full + "\nask x a")
        self.fault(full + "\ncards 1", full + "\n")
        self.fault(full + "\nask x a\ncards 1", full + "\nask x a\n")
        self.put_fault("cards 1", 0, full)
        self.assertEqual(last((FILE, "marks a" + "\ncards 1 a" * 29), (PUT, "cards 1")), [30, 0])
        self.assertEqual(last((FILE, full), (PUT, "ask x a")), [30, 1])


class Questions(TextCase):
    def test_names(self):
        for name in JOINTS + ("a", "b", "marks", "cards", "ask", "z", "abcdefghijkl"):
            self.right("marks a b\nask " + name + " a")
        for word in ("abcdefghijklm", "A", "x1", "1", "(", "x.", "\xe4"):
            self.fault("marks a\nask " + word + " a", "marks a\nask ")
            self.put_fault("ask " + word + " a", "ask ")

    def test_the_five_words_are_names_side_by_side(self):
        self.assertEqual(last((FILE, "marks a\n" + "\n".join(f"ask {word} a" for word in JOINTS))), [1, 0, 5])

    def test_a_name_told_twice(self):
        self.fault("marks a\nask x a\nask x a", "marks a\nask x a\nask ")
        self.fault("marks a\nask x a\nask y a\nask x all", "marks a\nask x a\nask y a\nask ")
        self.put_fault("ask x a", "ask ", "marks a\nask x all")
        self.put_fault("ask x b", "ask ", "marks a\nask x all")

    def test_six_and_a_seventh(self):
        full = "marks a" + "".join(f"\nask {name} a" for name in "uvwxyz")
        self.right(full)
        self.right(full + "\ncards 1")
        self.fault(full + "\nask t a", full + "\n")
        self.put_fault("ask t a", 0, full)
        self.put_fault("ask u a", 0, full)
        self.assertEqual(last((FILE, full), (PUT, "cards 1")), [1, 6])

    def test_all_lines_are_there(self):
        full = "marks a" + "\ncards 1 a" * 30 + "".join(f"\nask {name} a" for name in "uvwxyz")
        self.right(full)
        self.fault(full + "\nask t a", full + "\n")
        self.fault(full + "\ncards 1", full + "\n")
        self.fault(full + "\n", full + "\n")

    def test_words_that_cannot_stand(self):
        before = "marks a b\nask x "
        for good, bad in (
                ("", "and"), ("", "or"), ("", ")"), ("", "c"), ("", "(a)"), ("", "ask"), ("", "x"), ("", "5"),
                ("a ", "b"), ("a ", "not"), ("a ", "("), ("a ", "all"), ("a ", ")"), ("a ", "x"), ("a ", "cards"),
                ("a and ", "or"), ("a and ", "and"), ("a or ", ")"), ("a or ", "or"), ("not ", "and"),
                ("not ", ")"), ("( ", ")"), ("( a ", "b"), ("( a ", "("), ("( a ) ", ")"), ("( a ) ", "a"),
                ("( a ) ", "not"), ("not a ", "not"), ("all ", "none"), ("a and ( b or ", ")"),
                ("( ( a ) ", "a"), ("( not a ) ", ")"), ("a and ", "AND"), ("a ", "andd"), ("a ", "&")):
            self.fault(before + good + bad, before + good)
            self.fault(before + good + bad + " b", before + good)
            self.fault(before + good + bad + "\ncards 1", before + good)
            self.put_fault("ask x " + good + bad, "ask x " + good)

    def test_marks_that_are_not_told(self):
        self.fault("marks\nask x a", "marks\nask x ")
        self.fault("marks a\nask x a and b", "marks a\nask x a and ")
        self.right("marks\nask x all and not none")


class Openings(TextCase):
    def question(self, words):
        return "marks a\nask x " + words

    def test_8_and_9_of_not(self):
        self.right(self.question("not " * 8 + "a"))
        self.fault(self.question("not " * 9 + "a"), self.question("not " * 8))

    def test_8_and_9_brackets(self):
        self.right(self.question("( " * 8 + "a" + " )" * 8))
        self.fault(self.question("( " * 9 + "a" + " )" * 9), self.question("( " * 8))

    def test_8_and_9_of_both(self):
        self.right(self.question("not ( " * 4 + "a" + " )" * 4))
        self.fault(self.question("not ( " * 4 + "not a" + " )" * 4), self.question("not ( " * 4))
        self.fault(self.question("not ( " * 4 + "( a" + " )" * 5), self.question("not ( " * 4))
        self.fault(self.question("( not " * 4 + "( a" + " )" * 5), self.question("( not " * 4))

    def test_a_not_is_open_till_its_one_is_whole(self):
        seven = "not " * 7
        self.right(self.question(seven + "( a )"))
        self.fault(self.question(seven + "( not a )"), self.question(seven + "( "))
        self.right(self.question(seven + "( a ) and " + "not " * 8 + "a"))
        self.right(self.question("not " * 8 + "a and " + "not " * 8 + "a or " + "( " * 8 + "a" + " )" * 8))

    def test_what_is_closed_counts_no_more(self):
        self.right(self.question("( not " + "( " * 6 + "a" + " )" * 6 + " and " + "not " * 7 + "a )"))
        self.fault(self.question("( not a and " + "not " * 8 + "a )"), self.question("( not a and " + "not " * 7))
        self.right(self.question(" and ".join(["not ( not a )"] * 60)))

    def test_the_same_for_put(self):
        self.assertEqual(last((FILE, "marks a"), (PUT, "ask x " + "not " * 8 + "a")), [0, 1])
        self.put_fault("ask x " + "not " * 9 + "a", "ask x " + "not " * 8)


class EmptyWords(TextCase):
    def test_empty_texts(self):
        self.fault("", 0)
        self.put_fault("", 0)

    def test_at_the_beginning(self):
        self.fault(" marks", 0)
        self.fault("\nmarks", 0)
        self.fault(" ", 0)
        self.fault("\n", 0)
        self.put_fault(" cards 1", 0)
        self.put_fault("\ncards 1", 0)

    def test_at_the_end(self):
        for text in ("marks", "marks a", "marks a\ncards 1", "marks a\ncards 1 a", "marks a\nask x a"):
            self.right(text)
            self.fault(text + " ", text + " ")
            self.fault(text + "\n", text + "\n")
        for text in ("marks a\ncards", "marks a\nask", "marks a\nask x", "marks a\nask x not"):
            self.fault(text + " ", text + " ")
            self.fault(text + "\n", text)
        for line in ("cards 1", "cards 1 a", "ask x a"):
            self.put_fault(line + " ", line + " ")
            self.put_fault(line + "\n", line)

    def test_two_blanks(self):
        self.fault("marks  a", "marks ")
        self.fault("marks a\ncards  1", "marks a\ncards ")
        self.fault("marks a\ncards 1  a", "marks a\ncards 1 ")
        self.fault("marks a\nask  x a", "marks a\nask ")
        self.fault("marks a\nask x  a", "marks a\nask x ")
        self.fault("marks a\nask x a  and a", "marks a\nask x a ")
        self.fault("marks a\nask x a and  a", "marks a\nask x a and ")
        self.fault("marks a\nask x (  a )", "marks a\nask x ( ")
        self.fault("marks a   ", "marks a ")

    def test_a_blank_beside_a_line_end(self):
        self.fault("marks a \ncards 1", "marks a ")
        self.fault("marks a\n cards 1", "marks a\n")
        self.fault("marks a \n cards 1", "marks a ")
        self.fault("marks a\ncards 1 \ncards 1", "marks a\ncards 1 ")
        self.fault("marks a\nask x a\n ask y a", "marks a\nask x a\n")

    def test_two_line_ends(self):
        self.fault("marks a\n\ncards 1", "marks a\n")
        self.fault("marks a\ncards 1\n\n", "marks a\ncards 1\n")

    def test_a_line_end_where_none_can_stand(self):
        self.fault("marks a\ncards\n1", "marks a\ncards")
        self.fault("marks a\nask\nx a", "marks a\nask")
        self.fault("marks a\nask x a and\na", "marks a\nask x a and")
        self.fault("marks a\nask x ( a\n)", "marks a\nask x ( a")
        self.put_fault("cards 1\ncards 1", "cards 1")
        self.put_fault("ask x a\n\n", "ask x a")


class MissingWords(TextCase):
    def test_words_missing_at_the_end(self):
        for line in ("cards", "ask", "ask x", "ask x not", "ask x (", "ask x ( a", "ask x a and", "ask x a or",
                     "ask x ( a or ( b )", "ask x not not (", "ask x ( not a and"):
            text = "marks a b\n" + line
            self.fault(text, text)
            self.put_fault(line, line)


class Lines(TextCase):
    def test_the_first_word_of_a_line(self):
        for word in ("card", "asks", "a", "all", "1", "(", "marks", "CARDS"):
            self.fault("marks a\n" + word + " 1", "marks a\n")
            self.put_fault(word + " 1", 0)

    def test_lines_in_any_order(self):
        self.assertEqual(ask((FILE, "marks a\nask x a\ncards 1\nask y all\ncards 2 a"), (TOLD,), (FALLS, 0)),
                         [[1, 2, 2], [1, 2, 2, 3], [2, 3]])

    def test_the_first_fault_counts(self):
        self.fault("marks a a\ncards x", "marks a ")
        self.fault("marks a\ncards 01 b", "marks a\ncards ")
        self.fault("marks a\nask x b or", "marks a\nask x ")

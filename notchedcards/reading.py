"""Reads a file's text, or one line of it, word by word: the first word that can't stand is its fault."""

from notchedcards.cardfile import CardFile, Question, with_line, with_question
from notchedcards.cardfile import MOST_LINES, MOST_MARKS, MOST_QUESTIONS
from notchedcards.parts import all_part, and_part, mark_part, none_part, not_part, or_part
from notchedcards.refusals import TextFault
from notchedcards.words import Cursor, LINE_END, TEXT_END

MOST_CARDS = 1000000
MOST_LETTERS = 12
MOST_OPENED = 8
NO_MARKS = ("and", "or", "not", "all", "none")


def read_file(text):
    cursor = Cursor(text)
    card_file = CardFile(read_marks(cursor), [], [])
    while cursor.word() == LINE_END:
        cursor.advance()
        card_file = read_line(cursor, card_file)
    cursor.check(TEXT_END)
    return card_file


def read_put(text, card_file):
    cursor = Cursor(text)
    grown = read_line(cursor, card_file)
    cursor.check(TEXT_END)
    return grown


def is_name(word):
    # Among the signs that words are spelled with, a to z are the only letters.
    return word.isalpha() and len(word) <= MOST_LETTERS


def is_mark(word):
    return is_name(word) and word not in NO_MARKS


# A seventh mark, or one told twice, is left standing: it is a fault for whoever reads on.
def read_marks(cursor):
    cursor.take("marks")
    marks = []
    while len(marks) < MOST_MARKS and is_mark(cursor.word()) and cursor.word() not in marks:
        marks.append(cursor.word())
        cursor.advance()
    return marks


def read_line(cursor, card_file):
    if cursor.word() == "cards" and len(card_file.lines) < MOST_LINES:
        cursor.advance()
        return with_line(card_file, read_cards(cursor, card_file.marks))
    if cursor.word() == "ask" and len(card_file.questions) < MOST_QUESTIONS:
        cursor.advance()
        return with_question(card_file, read_question(cursor, card_file))
    raise TextFault(cursor.here())


def read_cards(cursor, marks):
    count = read_count(cursor)
    return (count, read_notching(cursor, marks))


def read_count(cursor):
    word = cursor.word()
    if not word.isdigit() or len(word) > len(str(MOST_CARDS)):
        raise TextFault(cursor.here())
    if word.startswith("0") and len(word) > 1:
        raise TextFault(cursor.here())
    if int(word) > MOST_CARDS:
        raise TextFault(cursor.here())
    cursor.advance()
    return int(word)


# A mark out of order, or told twice, is left standing: it is a fault for whoever reads on.
def read_notching(cursor, marks):
    notching = 0
    for number, mark in enumerate(marks):
        if cursor.word() == mark:
            notching = notching + (1 << number)
            cursor.advance()
    return notching


def read_question(cursor, card_file):
    name = cursor.word()
    if not is_name(name) or name in [question.name for question in card_file.questions]:
        raise TextFault(cursor.here())
    cursor.advance()
    part = read_either(cursor, card_file.marks, 0)
    return Question(name, part.spoken, part.truth)


# As few of "not" and "(" may be open at once, the readers can call one another; chains are gone through by loops.
def read_either(cursor, marks, opened):
    part = read_both(cursor, marks, opened)
    while cursor.word() == "or":
        cursor.advance()
        part = or_part(part, read_both(cursor, marks, opened))
    return part


def read_both(cursor, marks, opened):
    part = read_one(cursor, marks, opened)
    while cursor.word() == "and":
        cursor.advance()
        part = and_part(part, read_one(cursor, marks, opened))
    return part


def read_one(cursor, marks, opened):
    word = cursor.word()
    if word == "not" or word == "(":
        return read_opening(cursor, marks, opened)
    if word == "all":
        part = all_part(marks)
    elif word == "none":
        part = none_part(marks)
    elif word in marks:
        part = mark_part(marks, word)
    else:
        raise TextFault(cursor.here())
    cursor.advance()
    return part


def read_opening(cursor, marks, opened):
    if opened == MOST_OPENED:
        raise TextFault(cursor.here())
    word = cursor.word()
    cursor.advance()
    if word == "not":
        return not_part(read_one(cursor, marks, opened + 1))
    part = read_either(cursor, marks, opened + 1)
    cursor.take(")")
    return part

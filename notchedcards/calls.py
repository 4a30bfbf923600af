"""The calls: what each asks for, what it does with the file on the desk, and what it answers."""

from notchedcards.cardfile import MOST_QUESTIONS, count_cards, count_fallen, empty_file, without_question
from notchedcards.reading import read_file, read_put
from notchedcards.refusals import NoQuestion, NotInRange, NotText, Refusal, TextFault
from notchedcards.writing import one_text

MOST_BYTES = 2000


def check_text(text):
    if len(text) > MOST_BYTES:
        raise NotText()
    for byte in text:
        if byte < 0 or byte > 255:
            raise NotText()


def find_question(card_file, number):
    if number < 0 or number >= MOST_QUESTIONS:
        raise NotInRange()
    if number >= len(card_file.questions):
        raise NoQuestion()
    return card_file.questions[number]


def do_clear(desk, numbers, rows):
    desk.card_file = empty_file()
    return [0]


def do_file(desk, numbers, rows):
    check_text(rows[0])
    desk.card_file = read_file(rows[0])
    return [len(desk.card_file.marks), len(desk.card_file.lines), len(desk.card_file.questions)]


def do_look(desk, numbers, rows):
    check_text(rows[0])
    try:
        read_file(rows[0])
    except TextFault as fault:
        return [1, fault.place]
    return [0]


def do_text(desk, numbers, rows):
    return [0] + [ord(sign) for sign in one_text(desk.card_file)]


def do_put(desk, numbers, rows):
    check_text(rows[0])
    desk.card_file = read_put(rows[0], desk.card_file)
    return [len(desk.card_file.lines), len(desk.card_file.questions)]


def do_drop(desk, numbers, rows):
    find_question(desk.card_file, numbers[0])
    desk.card_file = without_question(desk.card_file, numbers[0])
    return [len(desk.card_file.questions)]


def do_told(desk, numbers, rows):
    card_file = desk.card_file
    return [len(card_file.marks), len(card_file.lines), len(card_file.questions), count_cards(card_file)]


def do_truth(desk, numbers, rows):
    question = find_question(desk.card_file, numbers[0])
    return [len(question.truth)] + question.truth


def do_falls(desk, numbers, rows):
    question = find_question(desk.card_file, numbers[0])
    return [count_fallen(desk.card_file, question), count_cards(desk.card_file)]


def do_equal(desk, numbers, rows):
    one = find_question(desk.card_file, numbers[0])
    other = find_question(desk.card_file, numbers[1])
    for notching in range(len(one.truth)):
        if one.truth[notching] != other.truth[notching]:
            return [0, notching]
    return [1]


def do_within(desk, numbers, rows):
    inner = find_question(desk.card_file, numbers[0])
    outer = find_question(desk.card_file, numbers[1])
    for notching in range(len(inner.truth)):
        if inner.truth[notching] > outer.truth[notching]:
            return [0, notching]
    return [1]


DOERS = {
    0: do_clear,
    1: do_file,
    2: do_look,
    3: do_text,
    4: do_put,
    5: do_drop,
    6: do_told,
    7: do_truth,
    8: do_falls,
    9: do_equal,
    10: do_within,
}
# (whole numbers, rows) behind a call's number: nothing in the list itself tells where a call ends.
COUNTS = {
    0: (0, 0),
    1: (0, 1),
    2: (0, 1),
    3: (0, 0),
    4: (0, 1),
    5: (1, 0),
    6: (0, 0),
    7: (1, 0),
    8: (1, 0),
    9: (2, 0),
    10: (2, 0),
}


def number_count(number):
    return COUNTS[number][0]


def row_count(number):
    return COUNTS[number][1]


def answer_call(desk, number, numbers, rows):
    try:
        return DOERS[number](desk, numbers, rows)
    except Refusal as refusal:
        return [refusal.number]

"""Checks of what is handed in with a call, but for texts' words and plans' rows, which their readers check."""

from notchedcards.cardfile import MOST_QUESTIONS
from notchedcards.refusals import NoQuestion, NotInRange, NotLabels, NotQuestions, NotText

MOST_BYTES = 2000
MOST_LABEL = 1000000000000


def check_text(text):
    if len(text) > MOST_BYTES:
        raise NotText()
    for byte in text:
        if byte < 0 or byte > 255:
            raise NotText()


def check_below(number, bound):
    if number < 0 or number >= bound:
        raise NotInRange()


def find_question(card_file, number):
    check_below(number, MOST_QUESTIONS)
    if number >= len(card_file.questions):
        raise NoQuestion()
    return card_file.questions[number]


# More numbers than there are questions can't be right, and are not gone through.
def find_questions(card_file, numbers):
    if len(numbers) == 0 or len(numbers) > len(card_file.questions):
        raise NotQuestions()
    for place, number in enumerate(numbers):
        if number < 0 or number >= len(card_file.questions) or number in numbers[:place]:
            raise NotQuestions()
    return [card_file.questions[number] for number in numbers]


def check_labels(labels, cube_count):
    if len(labels) != cube_count:
        raise NotLabels()
    for label in labels:
        if label < -MOST_LABEL or label > MOST_LABEL:
            raise NotLabels()

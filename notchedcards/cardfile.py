"""A file of cards: its marks, its lines of cards and its questions."""

MOST_MARKS = 6
MOST_NOTCHINGS = 64
MOST_LINES = 30
MOST_QUESTIONS = 6


# Marks never change under a question, so its one text and its truth (1 or 0 for each notching) are kept ready.
class Question:
    def __init__(self, name, spoken, truth):
        self.name = name
        self.spoken = spoken
        self.truth = truth


# Never changed: what changes a file makes another one, so that a refusal leaves the old one whole.
# A line of cards is a pair (how many cards, notching).
class CardFile:
    def __init__(self, marks, lines, questions):
        self.marks = marks
        self.lines = lines
        self.questions = questions


class Desk:
    def __init__(self):
        self.card_file = empty_file()


def empty_file():
    return CardFile([], [], [])


def with_line(card_file, line):
    return CardFile(card_file.marks, card_file.lines + [line], card_file.questions)


def with_question(card_file, question):
    return CardFile(card_file.marks, card_file.lines, card_file.questions + [question])


def without_question(card_file, number):
    left = card_file.questions[:number] + card_file.questions[number + 1:]
    return CardFile(card_file.marks, card_file.lines, left)


def count_notchings(marks):
    return 1 << len(marks)


def count_cards(card_file):
    return sum([count for count, notching in card_file.lines])


def count_fallen(card_file, question):
    return sum([count for count, notching in card_file.lines if question.truth[notching] == 1])


def cards_by_notching(card_file):
    cards = [0] * count_notchings(card_file.marks)
    for count, notching in card_file.lines:
        cards[notching] = cards[notching] + count
    return cards


# The answers of some questions to each notching, told as plans tell them: by the number of the right pile.
def right_piles(card_file, questions):
    piles = [0] * count_notchings(card_file.marks)
    for order, question in enumerate(questions):
        piles = [pile + (holds << order) for pile, holds in zip(piles, question.truth)]
    return piles


def hung_on(card_file, question):
    return [mark for mark in range(len(card_file.marks)) if hangs_on(question, mark)]


def hangs_on(question, mark):
    for notching, holds in enumerate(question.truth):
        if question.truth[notching ^ (1 << mark)] != holds:
            return True
    return False

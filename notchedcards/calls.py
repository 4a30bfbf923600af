"""The calls: what each asks for, what it does with the file on the desk, and what it answers."""

from notchedcards.cardfile import count_cards, count_fallen, count_notchings, empty_file, hung_on, right_piles
from notchedcards.cardfile import MOST_NOTCHINGS, without_question
from notchedcards.checks import check_below, check_labels, check_text, find_question, find_questions
from notchedcards.cubes import MOST_CUBES, count_cubes
from notchedcards.plans import first_misplaced, part_by_plan, plan_cost
from notchedcards.reading import read_file, read_put
from notchedcards.refusals import NoCards, NoCube, NoNotching, Refusal, TextFault
from notchedcards.tables import cost_and_row, first_too_great, least_marks, make_table, thumb_marks, whole_cube
from notchedcards.writing import one_text


def do_clear(desk, numbers, rows):
    desk.card_file = empty_file()
    return [0]


def do_file(desk, numbers, rows):
    check_text(rows[0])
    desk.card_file = read_file(rows[0])
    return [len(desk.card_file.marks), len(desk.card_file.lines), len(desk.card_file.questions)]


def do_look(desk, numbers, rows):
    check_text(rows[0])
    try:
        read_file(rows[0])
    except TextFault as fault:
        return [1, fault.place]
    return [0]


def do_text(desk, numbers, rows):
    return [0] + [ord(sign) for sign in one_text(desk.card_file)]


def do_put(desk, numbers, rows):
    check_text(rows[0])
    desk.card_file = read_put(rows[0], desk.card_file)
    return [len(desk.card_file.lines), len(desk.card_file.questions)]


def do_drop(desk, numbers, rows):
    find_question(desk.card_file, numbers[0])
    desk.card_file = without_question(desk.card_file, numbers[0])
    return [len(desk.card_file.questions)]


def do_told(desk, numbers, rows):
    card_file = desk.card_file
    return [len(card_file.marks), len(card_file.lines), len(card_file.questions), count_cards(card_file)]


def do_truth(desk, numbers, rows):
    question = find_question(desk.card_file, numbers[0])
    return [len(question.truth)] + question.truth


def do_falls(desk, numbers, rows):
    question = find_question(desk.card_file, numbers[0])
    return [count_fallen(desk.card_file, question), count_cards(desk.card_file)]


def do_equal(desk, numbers, rows):
    one = find_question(desk.card_file, numbers[0])
    other = find_question(desk.card_file, numbers[1])
    for notching in range(len(one.truth)):
        if one.truth[notching] != other.truth[notching]:
            return [0, notching]
    return [1]


def do_within(desk, numbers, rows):
    inner = find_question(desk.card_file, numbers[0])
    outer = find_question(desk.card_file, numbers[1])
    for notching in range(len(inner.truth)):
        if inner.truth[notching] > outer.truth[notching]:
            return [0, notching]
    return [1]


def do_hangs(desk, numbers, rows):
    question = find_question(desk.card_file, numbers[0])
    marks = hung_on(desk.card_file, question)
    return [len(marks)] + marks


def table_of(card_file, row):
    return make_table(card_file, find_questions(card_file, row))


def do_least(desk, numbers, rows):
    table = table_of(desk.card_file, rows[0])
    return cost_and_row(table, least_marks(table))


def do_cost(desk, numbers, rows):
    card_file = desk.card_file
    piles = right_piles(card_file, find_questions(card_file, rows[0]))
    parting = part_by_plan(rows[1], card_file.marks)
    misplaced = first_misplaced(parting, piles)
    told = [1] if misplaced is None else [0, misplaced]
    return told + [plan_cost(parting, card_file), parting.deepest]


def do_labels(desk, numbers, rows):
    table = table_of(desk.card_file, rows[0])
    return [len(table)] + [cube.cost for cube in table]


def do_accept(desk, numbers, rows):
    questions = find_questions(desk.card_file, rows[0])
    labels = rows[1]
    check_labels(labels, count_cubes(desk.card_file.marks))
    too_great = first_too_great(make_table(desk.card_file, questions), labels)
    if too_great is None:
        return [1, labels[len(labels) - 1]]
    return [0, too_great]


def do_deep(desk, numbers, rows):
    return [whole_cube(table_of(desk.card_file, rows[0])).depth]


def do_card(desk, numbers, rows):
    notching = numbers[0]
    check_below(notching, MOST_NOTCHINGS)
    parting = part_by_plan(rows[0], desk.card_file.marks)
    if notching >= count_notchings(desk.card_file.marks):
        raise NoNotching()
    return [parting.piles[notching], parting.needlings[notching]]


def least_cost(card_file, questions):
    return whole_cube(make_table(card_file, questions)).cost


def do_together(desk, numbers, rows):
    questions = find_questions(desk.card_file, rows[0])
    alone = [least_cost(desk.card_file, [question]) for question in questions]
    return [least_cost(desk.card_file, questions), sum(alone), max(alone)]


def greatest_divisor(one, other):
    while other > 0:
        rest = one % other
        one = other
        other = rest
    return one


def do_mean(desk, numbers, rows):
    questions = find_questions(desk.card_file, rows[0])
    cards = count_cards(desk.card_file)
    if cards == 0:
        raise NoCards()
    cost = least_cost(desk.card_file, questions)
    divisor = greatest_divisor(cost, cards)
    return [cost // divisor, cards // divisor]


def do_thumb(desk, numbers, rows):
    table = table_of(desk.card_file, rows[0])
    return cost_and_row(table, thumb_marks(table))


def do_cube(desk, numbers, rows):
    check_below(numbers[0], MOST_CUBES)
    table = table_of(desk.card_file, rows[0])
    if numbers[0] >= len(table):
        raise NoCube()
    cube = table[numbers[0]]
    told = [0, cube.mark] if cube.pile is None else [1, cube.pile]
    return told + [cube.cards, cube.cost, cube.depth]


DOERS = {
    0: do_clear,
    1: do_file,
    2: do_look,
    3: do_text,
    4: do_put,
    5: do_drop,
    6: do_told,
    7: do_truth,
    8: do_falls,
    9: do_equal,
    10: do_within,
    11: do_hangs,
    12: do_least,
    13: do_cost,
    14: do_labels,
    15: do_accept,
    16: do_deep,
    17: do_card,
    18: do_together,
    19: do_mean,
    20: do_thumb,
    21: do_cube,
}
# (whole numbers, rows) behind a call's number: nothing in the list itself tells where a call ends.
COUNTS = {
    0: (0, 0),
    1: (0, 1),
    2: (0, 1),
    3: (0, 0),
    4: (0, 1),
    5: (1, 0),
    6: (0, 0),
    7: (1, 0),
    8: (1, 0),
    9: (2, 0),
    10: (2, 0),
    11: (1, 0),
    12: (0, 1),
    13: (0, 2),
    14: (0, 1),
    15: (0, 2),
    16: (0, 1),
    17: (1, 1),
    18: (0, 1),
    19: (0, 1),
    20: (0, 1),
    21: (1, 1),
}


def number_count(number):
    return COUNTS[number][0]


def row_count(number):
    return COUNTS[number][1]


def answer_call(desk, number, numbers, rows):
    try:
        return DOERS[number](desk, numbers, rows)
    except Refusal as refusal:
        return [refusal.number]

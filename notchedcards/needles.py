"""The interface: a list of calls, answered one behind another on a file that is empty at first."""

from notchedcards.calls import answer_call, number_count, row_count
from notchedcards.cardfile import Desk


def answers(calls):
    desk = Desk()
    answered = []
    place = 0
    while place < len(calls):
        number = calls[place]
        first_row = place + 1 + number_count(number)
        rows = read_rows(calls, first_row, row_count(number))
        answer = answer_call(desk, number, calls[place + 1:first_row], rows)
        answered.append(len(answer))
        answered.extend(answer)
        place = first_row + sum([1 + len(row) for row in rows])
    return answered


def read_rows(calls, place, many):
    rows = []
    while len(rows) < many:
        begin = place + 1
        place = begin + calls[place]
        rows.append(calls[begin:place])
    return rows

"""The table for some questions, the plans that needle by it, and labels held against it.

A table is a list of cubes in the order of their numbers: the one with all marks open is the last.
"""

from notchedcards.cardfile import cards_by_notching, right_piles
from notchedcards.cubes import count_cubes, fallen_half, halves_of, lifted_half, notching_of


# A cube has either an answer, its pile, or a mark: the other one is None.
class Cube:
    def __init__(self, halves, cards, pile, cost, mark, depth):
        self.halves = halves
        self.cards = cards
        self.pile = pile
        self.cost = cost
        self.mark = mark
        self.depth = depth


# Both halves of a cube have lower numbers than the cube, so they are always in the table before it.
def make_table(card_file, questions):
    mark_count = len(card_file.marks)
    cards = cards_by_notching(card_file)
    piles = right_piles(card_file, questions)
    table = []
    for number in range(count_cubes(card_file.marks)):
        halves = halves_of(number, mark_count)
        if len(halves) == 0:
            notching = notching_of(number, mark_count)
            table.append(answered_cube(halves, cards[notching], piles[notching]))
        else:
            table.append(joined_cube(table, halves))
    return table


def answered_cube(halves, cards, pile):
    return Cube(halves, cards, pile, 0, None, 0)


# Whichever open mark it is halved by, the cards and the answer come out alike: the first mark serves for them.
def joined_cube(table, halves):
    lifted = table[halves[0][1]]
    fallen = table[halves[0][2]]
    cards = lifted.cards + fallen.cards
    if lifted.pile is not None and lifted.pile == fallen.pile:
        return answered_cube(halves, cards, lifted.pile)
    costs = [cards + table[low].cost + table[high].cost for mark, low, high in halves]
    depths = [1 + max(table[low].depth, table[high].depth) for mark, low, high in halves]
    return Cube(halves, cards, None, min(costs), first_least(halves, costs), min(depths))


def first_least(halves, costs):
    return halves[costs.index(min(costs))][0]


def whole_cube(table):
    return table[len(table) - 1]


def least_marks(table):
    return [cube.mark for cube in table]


def thumb_marks(table):
    return [thumb_mark(table, cube) for cube in table]


def thumb_mark(table, cube):
    if cube.pile is not None:
        return None
    greater = [max(table[low].cards, table[high].cards) for mark, low, high in cube.halves]
    return first_least(cube.halves, greater)


# What falls is laid aside first, so that what is lifted is taken up before it, as it stands in a row.
def cost_and_row(table, marks):
    cost = 0
    row = []
    waiting = [len(table) - 1]
    while len(waiting) > 0:
        number = waiting.pop()
        cube = table[number]
        if cube.pile is not None:
            row.extend([0, cube.pile])
        else:
            cost = cost + cube.cards
            row.append(marks[number] + 1)
            waiting.append(fallen_half(number, marks[number]))
            waiting.append(lifted_half(number, marks[number]))
    return [cost] + row


def first_too_great(table, labels):
    for number, cube in enumerate(table):
        if labels[number] > greatest_label(cube, labels):
            return number
    return None


def greatest_label(cube, labels):
    if cube.pile is not None:
        return 0
    return min([cube.cards + labels[low] + labels[high] for mark, low, high in cube.halves])

"""Cubes by their numbers: their open marks, their halves, and the notching of one without open marks."""

MOST_CUBES = 729
THREES = (1, 3, 9, 27, 81, 243, 729)


def count_cubes(marks):
    return THREES[len(marks)]


def told_of(cube, mark):
    return cube // THREES[mark] % 3


def lifted_half(cube, mark):
    return cube - 2 * THREES[mark]


def fallen_half(cube, mark):
    return cube - THREES[mark]


# Each open mark is told with both halves, (mark, lifted, fallen), as whoever weighs marks needs them together.
def halves_of(cube, mark_count):
    opened = [mark for mark in range(mark_count) if told_of(cube, mark) == 2]
    return [(mark, lifted_half(cube, mark), fallen_half(cube, mark)) for mark in opened]


def notching_of(cube, mark_count):
    return sum([told_of(cube, mark) << mark for mark in range(mark_count)])

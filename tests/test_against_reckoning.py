"""The table calls on many files, made by a seeded source, against a second reckoning by other means.

The second reckoning keeps no numbers of cubes: a cube is a tuple with 0, 1 or 2 for each mark, and what is asked of
it is told from its notchings each time. Plans are trees, as in the helper.
"""

import functools
import itertools
import math
import random
import unittest

from tests.helper import ACCEPT, CARD, COST, CUBE, DEEP, HANGS, LABELS, LEAST, MEAN, THUMB, TOGETHER
from tests.helper import ask, come_to, deepest, parity, row_of, stock_of


class Reckoning:
    def __init__(self, mark_count, lines, truths):
        self.marks = range(mark_count)
        self.lines = lines
        self.truths = truths
        self.full = (2,) * mark_count
        # Told from the last mark to the first, tuples come in the order of the cubes' numbers.
        self.cubes = [told[::-1] for told in itertools.product((0, 1, 2), repeat=mark_count)]
        self.cost = functools.lru_cache(maxsize=None)(self.cost)
        self.depth = functools.lru_cache(maxsize=None)(self.depth)

    def answers(self, notching):
        return sum(2 ** place for place, truth in enumerate(self.truths) if truth[notching])

    def within(self, cube, notching):
        return all(told in (2, notching // 2 ** mark % 2) for mark, told in zip(self.marks, cube))

    def cards(self, cube):
        return sum(count for count, notching in self.lines if self.within(cube, notching))

    def answer(self, cube):
        """The cube's answer, or None."""
        found = {self.answers(notching) for notching in range(2 ** len(self.full)) if self.within(cube, notching)}
        return found.pop() if len(found) == 1 else None

    def halves(self, cube, mark):
        return [cube[:mark] + (told,) + cube[mark + 1:] for told in (0, 1)]

    def open_marks(self, cube):
        return [mark for mark in self.marks if cube[mark] == 2]

    def cost_by(self, cube, mark):
        return self.cards(cube) + sum(self.cost(half) for half in self.halves(cube, mark))

    def cost(self, cube):
        if self.answer(cube) is not None:
            return 0
        return min(self.cost_by(cube, mark) for mark in self.open_marks(cube))

    def mark(self, cube):
        return min(self.open_marks(cube), key=lambda mark: (self.cost_by(cube, mark), mark))

    def thumb(self, cube):
        return min(self.open_marks(cube), key=lambda mark: (
            max(self.cards(half) for half in self.halves(cube, mark)), mark))

    def depth(self, cube):
        if self.answer(cube) is not None:
            return 0
        return min(1 + max(self.depth(half) for half in self.halves(cube, mark)) for mark in self.open_marks(cube))

    def tree(self, cube, choose):
        answer = self.answer(cube)
        if answer is not None:
            return answer
        mark = choose(cube)
        return (mark,) + tuple(self.tree(half, choose) for half in self.halves(cube, mark))

    def told(self, cube):
        answer = self.answer(cube)
        head = [0, self.mark(cube)] if answer is None else [1, answer]
        return head + [self.cards(cube), self.cost(cube), self.depth(cube)]

    def accepted(self, labels):
        label = dict(zip(self.cubes, labels))
        for number, cube in enumerate(self.cubes):
            bounds = [0]
            if self.answer(cube) is None:
                bounds = [self.cards(cube) + sum(label[half] for half in self.halves(cube, mark))
                          for mark in self.open_marks(cube)]
            if any(label[cube] > bound for bound in bounds):
                return [0, number]
        return [1, label[self.full]]

    def cost_of(self, tree):
        return sum(count * come_to(tree, notching)[1] for count, notching in self.lines)

    def judged(self, tree):
        wrong = [notching for notching in range(2 ** len(self.full))
                 if come_to(tree, notching)[0] != self.answers(notching)]
        return ([0, wrong[0]] if wrong else [1]) + [self.cost_of(tree), deepest(tree)]


def hung_on(truth, mark_count):
    return [mark for mark in range(mark_count)
            if any(truth[notching] != truth[notching + 2 ** mark]
                   for notching in range(len(truth)) if notching // 2 ** mark % 2 == 0)]


def some_truth(chance, mark_count):
    """Of all kinds: at random, by few marks, nearly always the same, odd."""
    size = 2 ** mark_count
    kind = chance.randrange(5)
    if kind == 0:
        return [chance.randrange(2) for notching in range(size)]
    if kind == 1:
        kept = chance.randrange(size)
        held = {notching: chance.randrange(2) for notching in range(size)}
        return [held[notching & kept] for notching in range(size)]
    if kind == 2:
        odd = chance.randrange(size)
        return [int(notching == odd) for notching in range(size)]
    if kind == 3:
        return [chance.randrange(2)] * size
    return parity(mark_count)


def some_lines(chance, mark_count):
    size = 2 ** mark_count
    most = chance.choice([0, 1, 3, 50, 1000000])
    return [(chance.randint(0, most), chance.randrange(size)) for line in range(chance.choice([0, 1, 2, 5, 12, 30]))]


def some_tree(chance, mark_count, piles, height):
    if height == 0 or mark_count == 0 or chance.random() < 0.2:
        return chance.choice(piles)
    below = [some_tree(chance, mark_count, piles, height - 1) for side in range(2)]
    return (chance.randrange(mark_count), below[0], below[1])


def some_labels(chance, own):
    """The table's own, some of them lower, or one or two at random."""
    labels = list(own)
    lowered = chance.choice([0, 0.05, 1])
    for cube in range(len(labels)):
        if chance.random() < lowered:
            labels[cube] -= chance.randint(0, 3)
    for turn in range(chance.randrange(3)):
        labels[chance.randrange(len(labels))] += chance.choice([-5, 1, 2])
    return labels


class AgainstReckoning(unittest.TestCase):
    def compare(self, chance, mark_count):
        lines = some_lines(chance, mark_count)
        truths = [some_truth(chance, mark_count) for question in range(chance.randint(1, 6))]
        questions = chance.sample(range(len(truths)), chance.randint(1, len(truths)))
        asked = [truths[question] for question in questions]
        second = Reckoning(mark_count, lines, asked)
        alone = [Reckoning(mark_count, lines, [truth]) for truth in asked]
        costs = [one.cost(one.full) for one in alone]
        own = [second.cost(cube) for cube in second.cubes]
        stock = stock_of(mark_count, lines, truths)
        pairs = [((HANGS, question), hung_on(truth, mark_count)) for question, truth in enumerate(truths)]
        pairs = [(one, [len(marks)] + marks) for one, marks in pairs]
        for call, choose in ((LEAST, second.mark), (THUMB, second.thumb)):
            tree = second.tree(second.full, choose)
            pairs.append(((call, questions), [second.cost_of(tree)] + row_of(tree)))
            pairs.append(((COST, questions, row_of(tree)), [1, second.cost_of(tree), deepest(tree)]))
        pairs += [((LABELS, questions), [len(own)] + own), ((DEEP, questions), [second.depth(second.full)]),
                  ((TOGETHER, questions), [second.cost(second.full), sum(costs), max(costs)]),
                  ((MEAN, questions), self.mean(second))]
        for number in chance.sample(range(len(second.cubes)), min(6, len(second.cubes))):
            pairs.append(((CUBE, number, questions), second.told(second.cubes[number])))
        for turn in range(3):
            labels = some_labels(chance, own)
            pairs.append(((ACCEPT, questions, labels), second.accepted(labels)))
        for turn in range(6):
            tree = some_tree(chance, mark_count, [0, 1, chance.randrange(64)], chance.randint(0, 6))
            notching = chance.randrange(2 ** mark_count)
            pairs.append(((COST, questions, row_of(tree)), second.judged(tree)))
            pairs.append(((CARD, notching, row_of(tree)), come_to(tree, notching)))
        answered = ask(*stock, *[one for one, expected in pairs])[len(stock):]
        for (one, expected), answer in zip(pairs, answered, strict=True):
            self.assertEqual(answer, expected, (stock, one))

    def mean(self, second):
        cards, cost = second.cards(second.full), second.cost(second.full)
        if cards == 0:
            return [-7]
        return [cost // math.gcd(cost, cards), cards // math.gcd(cost, cards)]

    def test_up_to_3_marks(self):
        chance = random.Random(511)
        for turn in range(400):
            self.compare(chance, turn % 4)

    def test_4_and_5_marks(self):
        chance = random.Random(512)
        for turn in range(16):
            self.compare(chance, 4 + turn % 2)

    def test_6_marks(self):
        chance = random.Random(513)
        for turn in range(10):
            self.compare(chance, 6)

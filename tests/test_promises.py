"""The four promises: for small files against all right plans, for greater ones against many."""

import itertools
import random
import unittest

from tests.helper import ACCEPT, COST, DEEP, LABELS, LEAST, TOGETHER
from tests.helper import ask, come_to, deepest, parity, row_of, stock_of

UNREACHED = 63


def halves(pack, mark):
    return [[notching for notching in pack if notching >> mark & 1 == side] for side in (0, 1)]


def one_answer(pack, piles):
    return len({piles[notching] for notching in pack}) == 1


def right_trees(pack, piles, marks):
    """All right plans for the pack that needle by these marks, none twice on a way."""
    trees = [piles[pack[0]]] if one_answer(pack, piles) else []
    for mark in marks:
        left = [other for other in marks if other != mark]
        lifted, fallen = halves(pack, mark)
        trees += [(mark, one, other) for one, other in itertools.product(
            right_trees(lifted, piles, left), right_trees(fallen, piles, left))]
    return trees


def right_trees_up_to(pack, piles, marks, height):
    """All right plans for the pack, no deeper than told, also by one mark twice; what no card reaches is one pile."""
    trees = []
    if pack == []:
        trees.append(UNREACHED)
    elif one_answer(pack, piles):
        trees.append(piles[pack[0]])
    if height > 0:
        for mark in marks:
            lifted, fallen = halves(pack, mark)
            trees += [(mark, one, other) for one, other in itertools.product(
                right_trees_up_to(lifted, piles, marks, height - 1),
                right_trees_up_to(fallen, piles, marks, height - 1))]
    return trees


def some_right_tree(chance, pack, piles, marks, height):
    """A right plan at random, with needles that part nothing as long as it isn't too deep."""
    if pack == []:
        return chance.randrange(64)
    if one_answer(pack, piles) and (height <= 0 or chance.random() < 0.8):
        return piles[pack[0]]
    useful = [mark for mark in marks if all(halves(pack, mark))]
    mark = chance.choice(useful if useful and (height <= 0 or chance.random() < 0.8) else marks)
    lifted, fallen = halves(pack, mark)
    return (mark, some_right_tree(chance, lifted, piles, marks, height - 1),
            some_right_tree(chance, fallen, piles, marks, height - 1))


def some_accepted_labels(chance, mark_count, lines, piles):
    """Labels that keep to the bounds, made cube by cube, some of them lower than they may be."""
    labels = {}
    for told in itertools.product((0, 1, 2), repeat=mark_count):
        cube = told[::-1]
        pack = [notching for notching in range(2 ** mark_count)
                if all(digit in (2, notching >> mark & 1) for mark, digit in enumerate(cube))]
        bounds = [0]
        if not one_answer(pack, piles):
            cards = sum(count for count, notching in lines if notching in pack)
            bounds = [cards + sum(labels[cube[:mark] + (side,) + cube[mark + 1:]] for side in (0, 1))
                      for mark in range(mark_count) if cube[mark] == 2]
        labels[cube] = min(bounds) - chance.choice([0, 0, 0, 0, 1, 4])
    return list(labels.values())


class SmallFile:
    def __init__(self, chance, mark_count, truths):
        self.mark_count = mark_count
        self.marks = list(range(mark_count))
        self.pack = list(range(2 ** mark_count))
        self.truths = truths
        self.questions = list(range(len(truths)))
        self.piles = [sum(truth[notching] << place for place, truth in enumerate(truths)) for notching in self.pack]
        most = chance.choice([0, 1, 2, 9, 1000])
        self.lines = [(chance.randint(0, most), chance.choice(self.pack)) for line in range(chance.randint(0, 6))]
        self.stock = stock_of(mark_count, self.lines, truths)

    def ask(self, *calls):
        return ask(*self.stock, *calls)[len(self.stock):]

    def cost_of(self, tree):
        return sum(count * come_to(tree, notching)[1] for count, notching in self.lines)


class Promises(unittest.TestCase):
    def told_costs(self, small, trees):
        """What the program says of the plans: each is right, with the cost and the deepest way that it has."""
        for begin in range(0, len(trees), 50):
            some = trees[begin:begin + 50]
            told = small.ask(*[(COST, small.questions, row_of(tree)) for tree in some])
            self.assertEqual(told, [[1, small.cost_of(tree), deepest(tree)] for tree in some], small.stock)

    def check_least(self, small, trees, all_are_there):
        least, depth = small.ask((LEAST, small.questions), (DEEP, small.questions))
        judged = small.ask((COST, small.questions, least[1:]))[0]
        self.assertEqual(judged[:2], [1, least[0]], small.stock)
        cheapest = min(small.cost_of(tree) for tree in trees)
        flattest = min(deepest(tree) for tree in trees)
        if all_are_there:
            self.assertEqual((least[0], depth), (cheapest, [flattest]), small.stock)
        self.assertLessEqual(least[0], cheapest, small.stock)
        self.assertLessEqual(depth[0], flattest, small.stock)
        return cheapest

    def check_labels(self, chance, small, cheapest):
        own = small.ask((LABELS, small.questions))[0][1:]
        self.assertEqual(small.ask((ACCEPT, small.questions, own)), [[1, own[-1]]])
        lower = some_accepted_labels(chance, small.mark_count, small.lines, small.piles)
        self.assertEqual(small.ask((ACCEPT, small.questions, lower)), [[1, lower[-1]]])
        self.assertLessEqual(max(own[-1], lower[-1]), cheapest)
        for turn in range(3):
            labels = [label + chance.choice([-1, 0, 0, 0, 1, 2]) for label in own[:-1]] + [cheapest + 1]
            answer = small.ask((ACCEPT, small.questions, labels))[0]
            self.assertEqual(answer[0], 0, (small.stock, labels))

    def check_together(self, small, cheapest):
        together = small.ask((TOGETHER, small.questions))[0]
        self.assertLessEqual(together[2], together[0], small.stock)
        self.assertLessEqual(together[0], together[1], small.stock)
        self.assertLessEqual(together[0], cheapest, small.stock)
        alone = [small.ask((LEAST, [question]))[0][0] for question in small.questions]
        self.assertEqual(together[1:], [sum(alone), max(alone)], small.stock)

    def check(self, chance, small, trees, all_are_there):
        self.told_costs(small, trees)
        cheapest = self.check_least(small, trees, all_are_there)
        self.check_labels(chance, small, cheapest)
        self.check_together(small, cheapest)

    def test_up_to_2_marks_with_marks_twice_on_a_way(self):
        chance = random.Random(21)
        for mark_count in range(3):
            for truth in itertools.product((0, 1), repeat=2 ** mark_count):
                small = SmallFile(chance, mark_count, [list(truth)])
                trees = right_trees_up_to(small.pack, small.piles, small.marks, 3)
                self.check(chance, small, trees, True)

    def test_3_marks_and_every_question(self):
        chance = random.Random(22)
        for truth in itertools.product((0, 1), repeat=8):
            small = SmallFile(chance, 3, [list(truth)])
            self.check(chance, small, right_trees(small.pack, small.piles, small.marks), True)

    def test_several_questions(self):
        chance = random.Random(23)
        for turn in range(60):
            mark_count = 2 + turn % 2
            truths = [[chance.randrange(2) for notching in range(2 ** mark_count)]
                      for question in range(chance.randint(2, 6))]
            small = SmallFile(chance, mark_count, truths)
            self.check(chance, small, right_trees(small.pack, small.piles, small.marks), True)

    def test_4_marks_of_which_no_cube_has_an_answer(self):
        chance = random.Random(24)
        small = SmallFile(chance, 4, [parity(4), [0] * 15 + [1]])
        trees = right_trees(small.pack, small.piles, small.marks)
        self.assertEqual(len(trees), 4 * 12 * 12)
        self.check(chance, small, trees, True)

    def test_plans_at_random(self):
        chance = random.Random(25)
        for turn in range(30):
            mark_count = 3 + turn % 4
            common = chance.randrange(2 ** mark_count)
            some = [[chance.randrange(2) for notching in range(2 ** mark_count)] for question in range(3)]
            truths = [[truth[notching & common] for notching in range(2 ** mark_count)] for truth in some]
            small = SmallFile(chance, mark_count, truths[:chance.randint(1, 3)])
            trees = [some_right_tree(chance, small.pack, small.piles, small.marks, 6) for tree in range(20)]
            self.check(chance, small, trees, False)

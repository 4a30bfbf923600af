"""Many texts, made by a seeded source, against a second reading by other means.

Questions are judged by Python's own grammar, whose "not", "and" and "or" bind in the same way; the place of a
fault by which beginnings of a text can still be ended rightly.
"""

import ast
import random
import re
import unittest

from tests.helper import EQUAL, FALLS, FILE, TEXT, TOLD, TRUTH, WITHIN
from tests.helper import ask, last, look, one_text

JOINTS = ("and", "or", "not", "all", "none")
MARKS = ["a", "cards", "if", "ask", "marks", "zz"]


def most_opened(words):
    """The most of "not" and "(" that are open at once."""
    stack, most = [], 0
    for word in words:
        if word in ("not", "("):
            stack.append(word)
        elif word not in ("and", "or"):
            if word == ")":
                while stack.pop() != "(":
                    pass
            while stack and stack[-1] == "not":
                stack.pop()
        most = max(most, len(stack))
    return most


def tree_of(words, marks):
    """The question's tree as nested tuples, or None if it's wrong."""
    if not all(word in marks or word in JOINTS + ("(", ")") for word in words):
        return None
    source = " ".join({"all": "True", "none": "False"}.get(
        word, f"m_{marks.index(word)}" if word in marks else word) for word in words)
    try:
        return folded(ast.parse(source, mode="eval").body)
    except (SyntaxError, LookupError):
        return None


def folded(node):
    if isinstance(node, ast.BoolOp):
        joint = "and" if isinstance(node.op, ast.And) else "or"
        tree = folded(node.values[0])
        for value in node.values[1:]:
            tree = (joint, tree, folded(value))
        return tree
    if isinstance(node, ast.UnaryOp):
        return ("not", folded(node.operand))
    if isinstance(node, ast.Constant):
        return ("all",) if node.value else ("none",)
    if isinstance(node, ast.Name):
        return ("mark", int(node.id[2:]))
    raise LookupError


def holds(tree, notching):
    if tree[0] == "mark":
        return notching // 2 ** tree[1] % 2 == 1
    if tree[0] == "not":
        return not holds(tree[1], notching)
    if tree[0] == "and":
        return holds(tree[1], notching) and holds(tree[2], notching)
    if tree[0] == "or":
        return holds(tree[1], notching) or holds(tree[2], notching)
    return tree[0] == "all"


def spoken(tree, marks):
    def within(part, joints):
        text = spoken(part, marks)
        return f"( {text} )" if part[0] in joints else text

    if tree[0] == "mark":
        return marks[tree[1]]
    if tree[0] == "not":
        return "not " + within(tree[1], ("and", "or"))
    if tree[0] == "and":
        return within(tree[1], ("or",)) + " and " + within(tree[2], ("and", "or"))
    if tree[0] == "or":
        return within(tree[1], ()) + " or " + within(tree[2], ("or",))
    return tree[0]


def second_reading(text):
    """(marks, lines, names, trees) of a right text, else None."""
    lines = [line.split(" ") for line in text.split("\n")]
    marks = lines[0][1:]
    if lines[0][0] != "marks" or len(marks) > 6 or len(set(marks)) < len(marks):
        return None
    if not all(re.fullmatch("[a-z]{1,12}", mark) and mark not in JOINTS for mark in marks):
        return None
    counted, names, trees = [], [], []
    for line in lines[1:]:
        if line[0] == "cards" and re.fullmatch("0|[1-9][0-9]*", (line + [""])[1]):
            if int(line[1]) > 1000000 or line[2:] != [mark for mark in marks if mark in line[2:]]:
                return None
            counted.append((int(line[1]), sum(2 ** marks.index(mark) for mark in line[2:])))
        elif line[0] == "ask" and re.fullmatch("[a-z]{1,12}", (line + [""])[1]):
            tree = tree_of(line[2:], marks)
            if line[1] in names or tree is None or most_opened(line[2:]) > 8:
                return None
            names.append(line[1])
            trees.append(tree)
        else:
            return None
    return (marks, counted, names, trees) if len(counted) <= 30 and len(names) <= 6 else None


def some_question(chance, marks, opened=0):
    """Words, mostly of a right question."""
    dice = chance.random()
    if dice < 0.2 and opened < 5:
        return ["not"] + some_one(chance, marks, opened + 1)
    if dice < 0.65 and opened < 6:
        joint = chance.choice(["and", "or"])
        return some_one(chance, marks, opened + 1) + [joint] + some_one(chance, marks, opened + 1)
    return [chance.choice(marks + ["all", "none"])] if dice < 0.999 else ["other"]


def some_one(chance, marks, opened):
    words = some_question(chance, marks, opened)
    return ["("] + words + [")"] if chance.random() < 0.4 else words


def some_text(chance):
    marks = chance.sample(MARKS, chance.randint(0, 6))
    lines = [["marks"] + marks]
    for number in range(chance.randint(0, 7)):
        if chance.random() < 0.5:
            notched = [mark for mark in marks if chance.random() < 0.5]
            lines.append(["cards", str(chance.choice([0, 1, 7, 30, 1000000]))] + notched)
        else:
            lines.append(["ask", "q" + "abcdefgh"[number]] + some_question(chance, marks))
    return "\n".join(" ".join(line) for line in lines)


def spoiled(chance, text):
    """The text with one word or sign taken out, put in or put twice."""
    pieces = re.split("([ \n])", text)
    place = chance.randrange(len(pieces))
    new = chance.choice(list(JOINTS) + ["(", ")", "(", ")", "", " ", "\n", "0", "01", "marks", "cards", "ask", "x", "A"])
    ways = [pieces[:place] + pieces[place + 1:], pieces[:place] + [new] + pieces[place + 1:],
            pieces[:place] + [pieces[place], " ", new] + pieces[place + 1:], pieces[:place + 1] + pieces[place:]]
    return "".join(chance.choice(ways))


def words_with_places(text):
    words, place = [], 0
    for piece in re.split("([ \n])", text):
        if piece != " ":
            words.append((piece, place))
        place += len(piece)
    return words


def can_be_ended(words):
    """Whether some words behind these make a right text."""
    begun = ""
    for word in words:
        begun += word if word == "\n" or begun == "" or begun.endswith("\n") else " " + word
    gap = "" if begun == "" or begun.endswith("\n") else " "
    closings = [" )" * many for many in range(9)]
    ends = [gap + end for end in ("marks", "1", "cards 1", "ask unheard all", "unheard all")]
    ends += closings + [gap + "all" + closing for closing in closings]
    return any(second_reading(begun + end) is not None for end in ends)


class AgainstPython(unittest.TestCase):
    def compare(self, text):
        reading = second_reading(text)
        marks, counted, names, trees = reading
        truths = [[int(holds(tree, notching)) for notching in range(2 ** len(marks))] for tree in trees]
        cards = sum(count for count, notching in counted)
        many = [len(marks), len(counted), len(names)]
        expected = [many, many + [cards]]
        calls = [(FILE, text), (TOLD,)]
        for one, truth in enumerate(truths):
            calls += [(TRUTH, one), (FALLS, one)]
            expected += [[len(truth)] + truth, [sum(count for count, notching in counted if truth[notching]), cards]]
            for other, against in enumerate(truths[:3]):
                calls += [(EQUAL, one, other), (WITHIN, one, other)]
                unlike = [place for place in range(len(truth)) if truth[place] != against[place]]
                beyond = [place for place in unlike if truth[place]]
                expected += [[0, unlike[0]] if unlike else [1], [0, beyond[0]] if beyond else [1]]
        self.assertEqual(ask(*calls), expected, text)
        lines = [" ".join(["marks"] + marks)]
        for count, notching in counted:
            lines.append(" ".join(["cards", str(count)] + [
                mark for number, mark in enumerate(marks) if notching // 2 ** number % 2]))
        lines += [f"ask {name} {spoken(tree, marks)}" for name, tree in zip(names, trees)]
        self.assertEqual(one_text(text), "\n".join(lines))
        self.assertEqual(last((FILE, text), (TEXT,)), last((FILE, "\n".join(lines)), (TEXT,)))

    def compare_fault(self, text):
        words = words_with_places(text)
        place = len(text)
        for many in range(len(words)):
            if not can_be_ended([word for word, at in words[:many + 1]]) or words[many][0] == "":
                place = words[many][1]
                break
        self.assertEqual(look(text), place, text)

    def test_texts(self):
        chance = random.Random(118)
        right = wrong = 0
        for turn in range(1500):
            text = some_text(chance)
            for spoil in range(chance.randint(0, 2)):
                text = spoiled(chance, text)
            if len(text) > 2000:
                continue
            if second_reading(text) is None:
                wrong += 1
                self.compare_fault(text)
            else:
                right += 1
                self.assertIsNone(look(text), text)
                self.compare(text)
        self.assertGreater(right, 400)
        self.assertGreater(wrong, 400)

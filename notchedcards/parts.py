"""The parts that questions are made of.

A part is made of smaller ones with its truth and its one text at once: so no tree is kept, and none has to be
walked, however many parts are joined one behind another.
"""

from notchedcards.cardfile import count_notchings


# The joint ("and", "or", or empty) is kept since brackets hang on it alone.
class Part:
    def __init__(self, truth, spoken, joint):
        self.truth = truth
        self.spoken = spoken
        self.joint = joint


def all_part(marks):
    return Part([1] * count_notchings(marks), "all", "")


def none_part(marks):
    return Part([0] * count_notchings(marks), "none", "")


def mark_part(marks, name):
    mark = marks.index(name)
    truth = [(notching >> mark) & 1 for notching in range(count_notchings(marks))]
    return Part(truth, name, "")


def bracketed(part, joints):
    if part.joint in joints:
        return "( " + part.spoken + " )"
    return part.spoken


def not_part(part):
    truth = [1 - holds for holds in part.truth]
    return Part(truth, "not " + bracketed(part, ("and", "or")), "")


def and_part(left, right):
    truth = [one & other for one, other in zip(left.truth, right.truth)]
    spoken = bracketed(left, ("or",)) + " and " + bracketed(right, ("and", "or"))
    return Part(truth, spoken, "and")


def or_part(left, right):
    truth = [one | other for one, other in zip(left.truth, right.truth)]
    spoken = left.spoken + " or " + bracketed(right, ("or",))
    return Part(truth, spoken, "or")

"""The refusals: each tells the number that is answered for it."""


class Refusal(Exception):
    def __init__(self, number):
        self.number = number


class NotText(Refusal):
    def __init__(self):
        Refusal.__init__(self, -1)


class NotInRange(Refusal):
    def __init__(self):
        Refusal.__init__(self, -3)


class NotQuestions(Refusal):
    def __init__(self):
        Refusal.__init__(self, -4)


class NoQuestion(Refusal):
    def __init__(self):
        Refusal.__init__(self, -5)


class NoNotching(Refusal):
    def __init__(self):
        Refusal.__init__(self, -5)


class NoCube(Refusal):
    def __init__(self):
        Refusal.__init__(self, -5)


class NotPlan(Refusal):
    def __init__(self):
        Refusal.__init__(self, -6)


class NotLabels(Refusal):
    def __init__(self):
        Refusal.__init__(self, -6)


class NoCards(Refusal):
    def __init__(self):
        Refusal.__init__(self, -7)


# The place is kept by itself, since look answers it and is not refused.
class TextFault(Refusal):
    def __init__(self, place):
        Refusal.__init__(self, -1000 - place)
        self.place = place

"""Plans that are handed in as rows of numbers: where each notching comes to, and what that costs."""

from notchedcards.cardfile import count_notchings
from notchedcards.refusals import NotPlan

MOST_PILE = 63


# Notchings without cards are parted too: a plan is right only if they come to their piles as well.
class Pack:
    def __init__(self, notchings, needlings):
        self.notchings = notchings
        self.needlings = needlings


# Kept by notching, since the order of piles in a row is not that of notchings.
class Parting:
    def __init__(self, notching_count):
        self.piles = [0] * notching_count
        self.needlings = [0] * notching_count
        self.deepest = 0


# The packs that wait are kept in a list, since a plan may be nested deeper than functions may call one another.
def part_by_plan(row, marks):
    notching_count = count_notchings(marks)
    parting = Parting(notching_count)
    waiting = [Pack(list(range(notching_count)), 0)]
    place = 0
    while len(waiting) > 0:
        pack = waiting.pop()
        number = number_at(row, place, len(marks))
        if number == 0:
            lay_down(parting, pack, number_at(row, place + 1, MOST_PILE))
            place = place + 2
        else:
            waiting.append(fallen_pack(pack, number - 1))
            waiting.append(lifted_pack(pack, number - 1))
            place = place + 1
    if place < len(row):
        raise NotPlan()
    return parting


def number_at(row, place, most):
    if place >= len(row) or row[place] < 0 or row[place] > most:
        raise NotPlan()
    return row[place]


# The deepest way counts piles that no notching comes to, too.
def lay_down(parting, pack, pile):
    parting.deepest = max(parting.deepest, pack.needlings)
    for notching in pack.notchings:
        parting.piles[notching] = pile
        parting.needlings[notching] = pack.needlings


def lifted_pack(pack, mark):
    return Pack([notching for notching in pack.notchings if (notching >> mark) & 1 == 0], pack.needlings + 1)


def fallen_pack(pack, mark):
    return Pack([notching for notching in pack.notchings if (notching >> mark) & 1 == 1], pack.needlings + 1)


def plan_cost(parting, card_file):
    return sum([count * parting.needlings[notching] for count, notching in card_file.lines])


def first_misplaced(parting, piles):
    for notching, pile in enumerate(piles):
        if parting.piles[notching] != pile:
            return notching
    return None

"""The words of a text, and a cursor that goes through them."""

from notchedcards.refusals import TextFault

BLANK = 32
LINE_FEED = 10
LETTERS = "abcdefghijklmnopqrstuvwxyz"
DIGITS = "0123456789"
# None of these is a letter, a digit or a bracket, so that no word that can stand is taken for one of them.
LINE_END = "\n"
TEXT_END = "."
STRANGE = "?"


# All bytes that no right word has are alike: where they stand is a fault in any case.
def sign_of(byte):
    if 97 <= byte <= 122:
        return LETTERS[byte - 97]
    if 48 <= byte <= 57:
        return DIGITS[byte - 48]
    if byte == 40:
        return "("
    if byte == 41:
        return ")"
    return STRANGE


def spelled(part):
    return "".join([sign_of(byte) for byte in part])


# Empty words are kept, as each is a fault with a place of its own; the text's end counts as a word,
# so that missing words are a fault like others.
def words_of(text):
    words = []
    begin = 0
    for place, byte in enumerate(text):
        if byte == BLANK or byte == LINE_FEED:
            words.append((spelled(text[begin:place]), begin))
            begin = place + 1
        if byte == LINE_FEED:
            words.append((LINE_END, place))
    words.append((spelled(text[begin:]), begin))
    words.append((TEXT_END, len(text)))
    return words


class Cursor:
    def __init__(self, text):
        self.words = words_of(text)
        self.at = 0

    def word(self):
        return self.words[self.at][0]

    def here(self):
        return self.words[self.at][1]

    def advance(self):
        self.at = self.at + 1

    def take(self, wanted):
        self.check(wanted)
        self.advance()

    def check(self, wanted):
        if self.word() != wanted:
            raise TextFault(self.here())

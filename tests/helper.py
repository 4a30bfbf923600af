"""Makes lists of calls and takes their answers apart."""

from notchedcards.needles import answers

CLEAR, FILE, LOOK, TEXT, PUT, DROP, TOLD, TRUTH, FALLS, EQUAL, WITHIN = range(11)
HANGS, LEAST, COST, LABELS, ACCEPT, DEEP, CARD, TOGETHER, MEAN, THUMB, CUBE = range(11, 22)
TABLE_CALLS = (LEAST, LABELS, ACCEPT, DEEP, TOGETHER, MEAN, THUMB, CUBE)
LOWEST, HIGHEST = -9223372036854775808, 9223372036854775807
LETTERS = "abcdef"


def bytes_of(text):
    return list(text.encode("latin-1")) if isinstance(text, str) else list(text)


def call(number, *parts):
    """A call: whole numbers as they are, texts and lists as rows with their lengths."""
    numbers = [number]
    for part in parts:
        if isinstance(part, int):
            numbers.append(part)
        else:
            row = bytes_of(part)
            numbers.extend([len(row)] + row)
    return numbers


def taken_apart(answered):
    """One list for each call."""
    apart = []
    place = 0
    while place < len(answered):
        end = place + 1 + answered[place]
        assert answered[place] > 0 and end <= len(answered)
        apart.append(answered[place + 1:end])
        place = end
    return apart


def ask(*calls):
    """The answers to calls, each a tuple or list as for call(), not more of them than may be handed in."""
    numbers = []
    for one in calls:
        numbers.extend(call(*one))
    assert len(numbers) <= 16000 and len(calls) <= 100
    assert len([one for one in calls if one[0] in TABLE_CALLS]) <= 20
    return taken_apart(answers(numbers))


def last(*calls):
    return ask(*calls)[-1]


def look(text):
    """The place of the text's fault, or None."""
    answer = last((LOOK, text))
    if answer == [0]:
        return None
    assert len(answer) == 2 and answer[0] == 1, answer
    return answer[1]


def text_answer(text):
    return [0] + bytes_of(text)


def one_text(text):
    answer = last((FILE, text), (TEXT,))
    assert answer[0] == 0
    return bytes(answer[1:]).decode("latin-1")


def spoken_truth(truth):
    """A question that holds of the notchings where truth has a 1, over the first letters as marks."""
    if 2 * sum(truth) > len(truth):
        return "not ( " + spoken_truth([1 - holds for holds in truth]) + " )"
    marks = LETTERS[:len(truth).bit_length() - 1]
    told = [" and ".join(mark if notching >> place & 1 else "not " + mark for place, mark in enumerate(marks))
            for notching, holds in enumerate(truth) if holds]
    return " or ".join(told) or "none"


def stock_of(mark_count, lines, truths):
    """The calls that make a file: lines are pairs (cards, notching), and each truth is a question's."""
    marks = list(LETTERS[:mark_count])
    text = [" ".join(["marks"] + marks)]
    for count, notching in lines:
        notched = [mark for place, mark in enumerate(marks) if notching >> place & 1]
        text.append(" ".join(["cards", str(count)] + notched))
    puts = [(PUT, f"ask {name} {spoken_truth(truth)}") for name, truth in zip(LETTERS, truths)]
    return [(FILE, "\n".join(text))] + puts


def parity(mark_count):
    """The truth of "an odd number of marks is notched", for which no cube with open marks has an answer."""
    return [bin(notching).count("1") % 2 for notching in range(2 ** mark_count)]


def row_of(tree):
    """The row of a plan that is a tree: a pile's number, or (mark, what's lifted, what falls)."""
    return [0, tree] if isinstance(tree, int) else [tree[0] + 1] + row_of(tree[1]) + row_of(tree[2])


def come_to(tree, notching):
    """The pile's number, and by how many needlings."""
    needlings = 0
    while not isinstance(tree, int):
        tree = tree[1 + notching // 2 ** tree[0] % 2]
        needlings += 1
    return [tree, needlings]


def deepest(tree):
    return 0 if isinstance(tree, int) else 1 + max(deepest(tree[1]), deepest(tree[2]))

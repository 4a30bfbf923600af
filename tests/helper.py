"""Makes lists of calls and takes their answers apart."""

from notchedcards.needles import answers

CLEAR, FILE, LOOK, TEXT, PUT, DROP, TOLD, TRUTH, FALLS, EQUAL, WITHIN = range(11)


def bytes_of(text):
    return list(text.encode("latin-1")) if isinstance(text, str) else list(text)


def call(number, *parts):
    """A call: whole numbers as they are, texts and lists as rows with their lengths."""
    numbers = [number]
    for part in parts:
        if isinstance(part, int):
            numbers.append(part)
        else:
            row = bytes_of(part)
            numbers.extend([len(row)] + row)
    return numbers


def taken_apart(answered):
    """One list for each call."""
    apart = []
    place = 0
    while place < len(answered):
        end = place + 1 + answered[place]
        assert answered[place] > 0 and end <= len(answered)
        apart.append(answered[place + 1:end])
        place = end
    return apart


def ask(*calls):
    """The answers to calls, each a tuple or list as for call()."""
    numbers = []
    for one in calls:
        numbers.extend(call(*one))
    return taken_apart(answers(numbers))


def last(*calls):
    return ask(*calls)[-1]


def look(text):
    """The place of the text's fault, or None."""
    answer = last((LOOK, text))
    if answer == [0]:
        return None
    assert len(answer) == 2 and answer[0] == 1, answer
    return answer[1]


def text_answer(text):
    return [0] + bytes_of(text)


def one_text(text):
    answer = last((FILE, text), (TEXT,))
    assert answer[0] == 0
    return bytes(answer[1:]).decode("latin-1")

"""The one text of a file."""


def one_text(card_file):
    lines = [" ".join(["marks"] + card_file.marks)]
    for count, notching in card_file.lines:
        lines.append(" ".join(["cards", str(count)] + notched_marks(card_file.marks, notching)))
    for question in card_file.questions:
        lines.append("ask " + question.name + " " + question.spoken)
    return "\n".join(lines)


def notched_marks(marks, notching):
    return [mark for number, mark in enumerate(marks) if (notching >> number) & 1 == 1]

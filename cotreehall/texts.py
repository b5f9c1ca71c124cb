"""Webs and papers as texts."""

from cotreehall.errors import NoText
from cotreehall.kinds import kind_of
from cotreehall.webs import ties_of, web_of

FIGURES = "0123456789"
LETTERS = "abcdefghijklmnopqrstuvwxyz"


def is_of(text, signs, most):
    return 1 <= len(text) <= most and all([sign in signs for sign in text])


def is_word(text):
    return is_of(text, LETTERS, 8)


def is_count(text):
    """Whether it is the text of a number from 0 on."""
    return is_of(text, FIGURES, 60) and (text == "0" or text[0] != "0")


def count_of(text):
    if not is_count(text):
        raise NoText(f"{text!r} is no number from 0 on")
    return int(text)


def number_of(text):
    if text[:1] == "-" and text != "-0":
        return -count_of(text[1:])
    return count_of(text)


def tie_of(text):
    ends = text.split("-")
    if len(ends) != 2:
        raise NoText(f"{text!r} is no tie")
    return (count_of(ends[0]), count_of(ends[1]))


def read_web(text):
    words = text.split(" ")
    many = count_of(words[0])
    return web_of(many, [tie_of(word) for word in words[1:]])


def shown_web(web):
    return " ".join([str(len(web))] + [f"{a}-{b}" for a, b in ties_of(web)])


def row_of(text):
    if text == ".":
        return []
    return [number_of(word) for word in text.split(" ")]


def shown_row(row):
    return "." if len(row) == 0 else " ".join([str(number) for number in row])


def shown_rows(rows):
    return " / ".join([shown_row(row) for row in rows])


def answer_of(text):
    if text not in ("yes", "no"):
        raise NoText(f"{text!r} is neither yes nor no")
    return text == "yes"


def read_paper(text):
    words = text.split(" ", 2)
    if len(words) < 2 or not is_word(words[0]):
        raise NoText(f"{text!r} is no paper")
    answer = answer_of(words[1])
    rows = [row_of(row) for row in words[2].split(" / ")] if len(words) == 3 else []
    # The form is looked at as a whole ahead of the word.
    return (kind_of(words[0]).word(), (answer, rows))


def shown_paper(word, paper):
    start = word + (" yes" if paper[0] else " no")
    return start if len(paper[1]) == 0 else start + " " + shown_rows(paper[1])

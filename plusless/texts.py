"""Rows and their parts, written as texts and read from them."""

from plusless.errors import NoText
from plusless.rows import LONGEST_ROW, need_parts

MARK_OF = {1: "+", 0: ".", -1: "-"}
PART_OF = {"+": 1, ".": 0, "-": -1}
FIGURES = "0123456789"

# Python turns only some thousand figures at once from a text into a number and back,
# and numbers that this program told may have more: so they go in pieces of 60 figures.
PIECE = 60


def figures_of(number):
    behind = ""
    rest = number
    while rest >= 10 ** 60:
        behind = str(rest % 10 ** 60).zfill(PIECE) + behind
        rest = rest // 10 ** 60
    return str(rest) + behind


def number_of(figures):
    pieces = (len(figures) + PIECE - 1) // PIECE
    padded = figures.zfill(pieces * PIECE)
    number = 0
    for start in range(0, len(padded), PIECE):
        number = number * 10 ** 60 + int(padded[start:start + PIECE])
    return number


def is_word(word):
    if len(word) < 2 or word[0] not in PART_OF or word[1] == "0":
        return False
    return all([figure in FIGURES for figure in word[1:]])


def show(row, parts):
    need_parts(row, parts)
    return " ".join([MARK_OF[part] + figures_of(number) for number, part in zip(row, parts)])


def words_of(text):
    # Python splits a text without signs into one empty word, but it is the row without numbers.
    return text.split(" ") if text != "" else []


def read(text):
    if not isinstance(text, str):
        raise NoText(0)
    numbers = []
    parts = []
    for at, word in enumerate(words_of(text)):
        if at == LONGEST_ROW or not is_word(word):
            raise NoText(at)
        numbers.append(number_of(word[1:]))
        parts.append(PART_OF[word[0]])
    return (tuple(numbers), tuple(parts))

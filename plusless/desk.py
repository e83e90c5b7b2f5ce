"""A desk that keeps a row, is told lines and answers with texts."""

from plusless.errors import NoLine
from plusless.evenness import unevenness
from plusless.every import every_by_parts, every_by_signs
from plusless.halves import above, below, first_met, many_met
from plusless.inturn import least_swing
from plusless.keeper import Keeper
from plusless.rows import total
from plusless.texts import FIGURES, show

MOST_FIGURES = 30


def row_text(row):
    return " ".join([str(number) for number in row]) if row != () else "none"


def total_text(row):
    return str(total(row))


def even_text(row):
    return str(unevenness(row))


def swing_text(row):
    return str(least_swing(row))


def every_text(row):
    if every_by_signs(row):
        return "signs"
    return "parts" if every_by_parts(row) else "no"


def comes_text(row, number):
    return "yes" if many_met(row, number) > 0 else "no"


def ways_text(row, number):
    return str(many_met(row, number))


def signs_text(row, number):
    signs = first_met(row, number)
    return "none" if signs is None else show(row, signs)


def number_or_none(number):
    return "none" if number is None else str(number)


def near_text(row, number):
    return number_or_none(below(row, number)) + " " + number_or_none(above(row, number))


CHANGED_ALONE = ("take", "back")
ASKED_ALONE = {"row": row_text, "total": total_text, "even": even_text, "swing": swing_text, "every": every_text}
ASKED_OF_A_NUMBER = {"comes": comes_text, "ways": ways_text, "signs": signs_text, "near": near_text}


def is_number_word(word):
    figures = word[1:] if word.startswith("-") else word
    if figures.startswith("0"):
        return word == "0"
    return 1 <= len(figures) <= MOST_FIGURES and all([figure in FIGURES for figure in figures])


def is_line(words):
    if len(words) == 1:
        return words[0] in CHANGED_ALONE or words[0] in ASKED_ALONE
    if len(words) != 2 or not is_number_word(words[1]):
        return False
    if words[0] == "put":
        return int(words[1]) >= 1
    return words[0] in ASKED_OF_A_NUMBER


def words_of_line(line):
    if not isinstance(line, str):
        raise NoLine("a line is a text")
    words = line.split(" ")
    if not is_line(words):
        raise NoLine("this is no line that a desk is told")
    return words


class Desk:
    def __init__(self):
        self.keeper = Keeper()

    def say(self, line):
        words = words_of_line(line)
        if words[0] == "put":
            return str(self.keeper.put(int(words[1])))
        if words[0] == "take":
            return str(self.keeper.take())
        if words[0] == "back":
            return str(self.keeper.back())
        row = self.keeper.row()
        if len(words) == 1:
            return ASKED_ALONE[words[0]](row)
        return ASKED_OF_A_NUMBER[words[0]](row, int(words[1]))

import unittest
from itertools import product

from plusless.desk import Desk
from plusless.errors import Bare, NoLine, TooMany
from plusless.evenness import unevenness
from plusless.every import every_by_parts, every_by_signs
from plusless.inturn import least_swing
from plusless.texts import read
from samples import (
    LARGE, LONG_ROWS, MORE_ROWS, NO_NUMBERS, NO_ROWS, NO_TABLES, SIXTEENS, SMALL_ROWS, TEN,
    nested, numbers_about, plain_worth, refused, signs_by_swing, signs_by_worth,
)

ALONE = ("take", "back", "row", "total", "even", "swing", "every")
ASKED_ALONE = ("row", "total", "even", "swing", "every")
OF_A_NUMBER = ("comes", "ways", "signs", "near")

WRONG_NUMBERS = (
    "", "-", "+", "+3", "--3", "-+3", "03", "00", "007", "-03", "-0", "-00", "+0", "3.0", "3.", ".3", "1e3", "1_0", "0x3",
    "three", "N", "n", "None", "True", "3a", "a3", "3-", "3-1", "(3)", "'3'", "3,", "3,5", "3\n", "\n3", "3\t", "\t3", "3\r",
    "1" + "0" * 30, "9" * 31, "-1" + "0" * 30, "-" + "9" * 31, "9" * 1900, "0" * 30, "0" + "9" * 29, "\u0663", "\u00b2", "\uff13",
)

SIGN_OF = {1: "+", -1: "-"}


def desk_of(row):
    desk = Desk()
    for number in row:
        desk.say(f"put {number}")
    return desk


def seen_of(desk):
    numbers = ("-7", "-2", "-1", "0", "1", "2", "3", "8")
    return [desk.say(word) for word in ASKED_ALONE] + [desk.say(f"{word} {n}") for word in OF_A_NUMBER for n in numbers]


def told_or_none(number):
    return "none" if number is None else str(number)


class Changes(unittest.TestCase):
    def test_told_ones(self):
        desk = Desk()
        self.assertEqual([desk.say("put 3"), desk.say("put 5"), desk.say("put 30")], ["1", "2", "3"])
        self.assertEqual(desk.say("row"), "3 5 30")
        self.assertEqual(desk.say("take"), "2")
        self.assertEqual(desk.say("row"), "3 5")
        self.assertEqual(desk.say("back"), "3")
        self.assertEqual(desk.say("row"), "3 5 30")
        self.assertEqual([desk.say("back"), desk.say("back"), desk.say("back")], ["2", "1", "0"])
        self.assertEqual(desk.say("row"), "none")
        self.assertIs(refused(desk.say, "back"), Bare)
        self.assertIs(refused(desk.say, "take"), Bare)

    def test_every_short_course(self):
        for course in product(("put 1", "put 20", "take", "back"), repeat=5):
            desk = Desk()
            earlier = []
            row = []
            for line in course:
                if line == "back" and not earlier or line == "take" and not row:
                    self.assertIs(refused(desk.say, line), Bare, course)
                    continue
                if line == "back":
                    row = earlier.pop()
                else:
                    earlier.append(row)
                    row = row[:-1] if line == "take" else row + [line[4:]]
                self.assertEqual(desk.say(line), str(len(row)), course)
                self.assertEqual(desk.say("row"), " ".join(row) or "none", course)

    def test_too_many(self):
        desk = desk_of((1,) * 15)
        self.assertEqual(desk.say("put 2"), "16")
        before = seen_of(desk)
        for line in ("put 1", "put " + "9" * 30):
            self.assertIs(refused(desk.say, line), TooMany)
        self.assertEqual(seen_of(desk), before)
        self.assertEqual(desk.say("take"), "15")
        self.assertEqual(desk.say("put 7"), "16")
        self.assertEqual(desk.say("row"), "1 " * 15 + "7")

    def test_numbers_of_thirty_figures(self):
        desk = Desk()
        self.assertEqual(desk.say("put " + "9" * 30), "1")
        self.assertEqual(desk.say("put 1" + "0" * 29), "2")
        self.assertEqual(desk.say("row"), "9" * 30 + " 1" + "0" * 29)
        self.assertEqual(desk.say("total"), str(LARGE + 10 ** 29))
        self.assertEqual(desk.say("comes -" + str(LARGE - 10 ** 29)), "yes")
        self.assertEqual(desk.say("near " + "9" * 30), f"{LARGE - 10 ** 29} {LARGE + 10 ** 29}")


class Asked(unittest.TestCase):
    def test_of_the_row_without_numbers(self):
        desk = Desk()
        for line, answer in (
            ("row", "none"), ("total", "0"), ("comes 0", "yes"), ("comes 1", "no"), ("ways 0", "1"), ("ways -1", "0"),
            ("signs 0", ""), ("signs 1", "none"), ("even", "0"), ("swing", "0"), ("every", "signs"), ("near 0", "0 0"),
            ("near 3", "0 none"), ("near -3", "none 0"),
        ):
            self.assertEqual(desk.say(line), answer, line)

    def test_told_ones(self):
        desk = desk_of((3, 5, 7))
        for line, answer in (
            ("row", "3 5 7"), ("total", "15"), ("comes 1", "yes"), ("comes -1", "yes"), ("comes 0", "no"), ("ways 1", "1"),
            ("ways 2", "0"), ("signs 1", "+3 +5 -7"), ("signs -1", "-3 -5 +7"), ("signs 0", "none"), ("even", "1"),
            ("swing", "5"), ("every", "no"), ("near 0", "-1 1"), ("near 15", "15 15"), ("near 16", "15 none"),
            ("near -16", "none -15"), ("near 14", "9 15"),
        ):
            self.assertEqual(desk.say(line), answer, line)

    def test_every(self):
        for row, answer in (((), "signs"), ((1, 2), "signs"), ((1, 3), "parts"), ((3, 1), "parts"), ((2,), "no"), ((1, 4), "no")):
            self.assertEqual(desk_of(row).say("every"), answer, row)

    def test_against_all_signs(self):
        for row in SMALL_ROWS + MORE_ROWS + [TEN, LONG_ROWS[4]]:
            desk = desk_of(row)
            found = signs_by_worth(row)
            self.assertEqual(desk.say("row"), " ".join([str(number) for number in row]) or "none")
            self.assertEqual(desk.say("total"), str(sum(row)))
            self.assertEqual(desk.say("even"), str(min(abs(reached) for reached in found)))
            self.assertEqual(desk.say("swing"), str(min(signs_by_swing(row))))
            numbers = [number for number in numbers_about(row) if abs(number) <= LARGE]
            for number in numbers[::1 + len(numbers) // 40]:
                signs = found.get(number, [])
                self.assertEqual(desk.say(f"comes {number}"), "yes" if signs else "no")
                self.assertEqual(desk.say(f"ways {number}"), str(len(signs)))
                shown = " ".join([SIGN_OF[sign] + str(n) for n, sign in zip(row, signs[0])]) if signs else "none"
                self.assertEqual(desk.say(f"signs {number}"), shown, (row, number))
                lower = max([reached for reached in found if reached <= number], default=None)
                upper = min([reached for reached in found if reached >= number], default=None)
                self.assertEqual(desk.say(f"near {number}"), f"{told_or_none(lower)} {told_or_none(upper)}", (row, number))

    def test_sixteen_numbers(self):
        for row in [SIXTEENS[0], SIXTEENS[4]]:
            desk = desk_of(row)
            found = signs_by_worth(row)
            self.assertEqual(desk.say("even"), str(unevenness(row)))
            self.assertEqual(desk.say("swing"), str(least_swing(row)))
            self.assertEqual(desk.say("every"), "signs" if every_by_signs(row) else "parts" if every_by_parts(row) else "no")
            number = min(found, key=abs)
            self.assertEqual(desk.say(f"ways {number}"), str(len(found[number])))
            self.assertEqual(read(desk.say(f"signs {number}")), (row, found[number][0]))
            self.assertEqual(plain_worth(*read(desk.say(f"signs {number}"))), number)

    def test_answers_are_texts(self):
        desk = desk_of((1, 2))
        for line in ASKED_ALONE + ("put 3", "take", "back") + tuple(f"{word} 0" for word in OF_A_NUMBER):
            self.assertIs(type(desk.say(line)), str, line)


class NoLines(unittest.TestCase):
    def assert_no_line(self, line):
        for row in ((), (3, 5), (1,) * 16):
            desk = desk_of(row)
            self.assertIs(refused(desk.say, line), NoLine, (row, line))
            self.assertEqual(desk.say("row"), " ".join([str(number) for number in row]) or "none")
            if row:
                self.assertEqual(desk.say("back"), str(len(row) - 1), line)
            else:
                self.assertIs(refused(desk.say, "back"), Bare, line)

    def test_what_is_no_text(self):
        for thing in NO_NUMBERS + NO_ROWS + NO_TABLES + [("row",), ["row"], {"row": "row"}, ["put", "3"], nested(9, "row")]:
            if not isinstance(thing, str):
                self.assert_no_line(thing)

    def test_no_words_of_these(self):
        for line in (
            "", " ", "none", "yes", "signs", "put", "comes", "ways", "near", "3", "+3 -5", "Row", "ROW", "rows", "ro", "r", "say",
            "row\n", "\nrow", "row\t", "take.", "undo", "parts", "0", "put3", "ways0", "totals", "eve", "swings", "__init__", "keeper",
        ):
            self.assert_no_line(line)

    def test_a_blank_more(self):
        for line in ALONE + tuple(f"{word} 3" for word in OF_A_NUMBER + ("put",)):
            self.assert_no_line(" " + line)
            self.assert_no_line(line + " ")
            self.assert_no_line(line + "  ")
            self.assert_no_line(line.replace(" ", "  ") if " " in line else line + " " + " ")
            self.assert_no_line(line.replace(" ", "\t") if " " in line else line + "\t")
            self.assert_no_line(line.replace(" ", "\n") if " " in line else line + "\n")

    def test_a_word_left_out_put_in_or_exchanged(self):
        for word in ALONE:
            for line in (f"{word} 3", f"{word} 0", f"{word} {word}", f"3 {word}", f"put {word}", f"{word} put 3", f"{word} 3 3"):
                self.assert_no_line(line)
        for word in OF_A_NUMBER + ("put",):
            for line in (word, "3", f"3 {word}", f"{word} 3 5", f"{word} {word} 3", f"{word} row", f"{word} 3 row", f"row {word} 3"):
                self.assert_no_line(line)
            self.assert_no_line(word.upper() + " 3")
            self.assert_no_line(word[:-1] + " 3")
            self.assert_no_line(word + "s 3")

    def test_numbers_written_otherwise(self):
        for word in OF_A_NUMBER + ("put",):
            for number in WRONG_NUMBERS:
                self.assert_no_line(f"{word} {number}")

    def test_put_takes_numbers_from_1_on_alone(self):
        for number in ("0", "-1", "-2", "-" + "9" * 30):
            self.assert_no_line(f"put {number}")
        for word in OF_A_NUMBER:
            for number in ("0", "-1", "-" + "9" * 30, "9" * 30):
                self.assertIsNone(refused(desk_of((3, 5)).say, f"{word} {number}"))


class Unchanged(unittest.TestCase):
    def test_what_is_refused_or_asked_changes_nothing(self):
        for row in ((), (3, 5, 7), (2,) * 16):
            desk = desk_of(row)
            before = seen_of(desk)
            self.assertEqual(seen_of(desk), before)
            for line in (None, True, 3, [], "", "put", "put 0", "put -1", "put 03", "take 1", "back 1", "row ", "near"):
                self.assertIs(refused(desk.say, line), NoLine, line)
            self.assertIs(refused(desk.say, "put 1"), TooMany if len(row) == 16 else None)
            if len(row) < 16:
                desk.say("back")
            self.assertEqual(seen_of(desk), before)
            for many in range(len(row) - 1, -1, -1):
                self.assertEqual(desk.say("back"), str(many))
            self.assertIs(refused(desk.say, "back"), Bare)

    def test_what_was_refused_does_not_stand(self):
        desk = desk_of((3,))
        desk.say("take")
        self.assertIs(refused(desk.say, "take"), Bare)
        self.assertEqual((desk.say("back"), desk.say("row")), ("1", "3"))
        full = desk_of((2,) * 16)
        self.assertIs(refused(full.say, "put 1"), TooMany)
        self.assertEqual((full.say("back"), full.say("row")), ("15", "2 " * 14 + "2"))

    def test_two_desks_have_nothing_in_common(self):
        one = Desk()
        other = Desk()
        one.say("put 3")
        self.assertEqual((one.say("row"), other.say("row")), ("3", "none"))
        self.assertIs(refused(other.say, "back"), Bare)
        self.assertIs(refused(other.say, "take"), Bare)
        other.say("put 5")
        other.say("put 7")
        one.say("take")
        self.assertEqual((one.say("row"), other.say("row")), ("none", "5 7"))
        other.say("back")
        self.assertEqual((one.say("back"), one.say("row"), other.say("row")), ("1", "3", "5"))
        self.assertEqual((one.say("total"), other.say("total"), Desk().say("total")), ("3", "5", "0"))


if __name__ == "__main__":
    unittest.main()

import unittest

from plusless.errors import NoText
from plusless.rows import total
from plusless.texts import read, show
from samples import ALL_ROWS, LARGE, NO_NUMBERS, some_parts

RIGHT = ("+3", "-5", ".7", "+10", "-" + str(LARGE))

WRONG_WORDS = (
    "", "+", "-", ".", "3", "+-3", "++3", "--3", "..3", "-+3", "3+", "+3+", "+3-", "3-", "*3", "/3", ",3", "_3", "+0",
    "-0", ".0", "+03", "-007", ".00", "+3a", "+a", "+0x3", "+1e3", "+1_0", "+3.0", "+3,", "+(3)", "+3\n", "\n+3", "+3\t",
    "+\t3", "+3\n-5", "+3\t-5", "None", "plus3", "+3.", "+.3", "(+3)", "'+3'",
)


class Show(unittest.TestCase):
    def test_told_ones(self):
        self.assertEqual(show((3, 5, 7), (1, -1, 0)), "+3 -5 .7")
        self.assertEqual(show((), ()), "")
        self.assertEqual(show((10,), (0,)), ".10")
        self.assertEqual(show((LARGE, 1), (-1, 1)), "-" + "9" * 30 + " +1")
        self.assertEqual(show((1,) * 16, (1,) * 16), "+1 " * 15 + "+1")


class Read(unittest.TestCase):
    def test_told_ones(self):
        self.assertEqual(read("+3 -5 .7"), ((3, 5, 7), (1, -1, 0)))
        self.assertEqual(read(""), ((), ()))
        self.assertEqual(read(".100"), ((100,), (0,)))
        self.assertEqual(read("-" + "9" * 30), ((LARGE,), (-1,)))

    def test_what_is_written_is_read_to_the_same(self):
        for row in ALL_ROWS + [(LARGE,) * many for many in range(17)]:
            for parts in some_parts(row):
                text = show(row, parts)
                self.assertEqual(read(text), (row, parts), text)
                self.assertEqual(show(*read(text)), text)

    def test_numbers_longer_than_python_takes_at_once(self):
        figures = "1" + "0" * 700 + "9" * 1290
        row = read("+" + figures)[0]
        self.assertEqual(row, (int(figures),))
        self.assertEqual(show(row, (1,)), "+" + figures)
        while row[0].bit_length() < 20000:
            row = (total(row * 16),)
        self.assertEqual(read(show(row, (-1,))), (row, (-1,)))

    def test_numbers_about_the_length_of_a_piece(self):
        for figures in range(55, 126):
            for number in (10 ** figures, 10 ** figures - 1, 10 ** figures + 7, 3 * 10 ** figures + 10 ** (figures // 2)):
                self.assertEqual(show((number,), (1,)), f"+{number}")
                self.assertEqual(read(f".{number}"), ((number,), (0,)))


class Refused(unittest.TestCase):
    def assert_at(self, at, thing):
        with self.assertRaises(NoText, msg=repr(thing)) as caught:
            read(thing)
        self.assertEqual(caught.exception.at, at, repr(thing))

    def test_no_text(self):
        for thing in NO_NUMBERS + [0, 3, -5, ((3,), (1,)), ["+3"], ("+3",), {"+3": "+3"}]:
            if not isinstance(thing, str):
                self.assert_at(0, thing)

    def test_a_wrong_word_alone_and_behind_right_ones(self):
        for word in WRONG_WORDS:
            for ahead in range(6):
                for behind in range(3):
                    words = list(RIGHT[:ahead]) + [word] + list(RIGHT[:behind])
                    if words != [""]:
                        self.assert_at(ahead, " ".join(words))

    def test_the_first_of_several_wrong_words(self):
        self.assert_at(1, "+3 5 -0 7")
        self.assert_at(0, "3 5")
        self.assert_at(2, "+3 -5 x  +1")

    def test_blanks(self):
        self.assert_at(0, " ")
        self.assert_at(0, "  ")
        self.assert_at(0, " +3")
        self.assert_at(1, "+3 ")
        self.assert_at(1, "+3  -5")
        self.assert_at(2, "+3 -5 ")
        self.assert_at(1, "+3 - 5")
        self.assert_at(16, "+1 " * 16)
        self.assert_at(15, "+1 " * 15)

    def test_a_seventeenth_word(self):
        self.assert_at(16, " ".join(["+1"] * 17))
        self.assert_at(16, " ".join(["+1"] * 30))
        self.assert_at(16, " ".join(["+1"] * 16 + ["x"]))
        self.assert_at(16, " ".join(["+1"] * 18 + ["x"]))
        self.assert_at(15, " ".join(["+1"] * 15 + ["x"] + ["+1"] * 5))
        self.assert_at(3, " ".join(["+1"] * 3 + ["+01"] + ["+1"] * 16))

    def test_a_sign_missing_doubled_or_exchanged_at_each_word(self):
        for many in (1, 2, 5, 16):
            words = [f"{'+-.'[place % 3]}{place + 1}" for place in range(many)]
            self.assertEqual(read(" ".join(words))[0], tuple(range(1, many + 1)))
            for place in range(many):
                word = words[place]
                for wrong in (word[1:], word[0] + word, "*" + word[1:], word[0] + "0" + word[1:], word[0]):
                    self.assert_at(place, " ".join(words[:place] + [wrong] + words[place + 1:]))


if __name__ == "__main__":
    unittest.main()

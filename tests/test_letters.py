"""Points 24 and 26: letters as lines of text."""

import unittest

from ringlaps.errors import BadText
from ringlaps.letters import letter_text, parse_letter

WRITTEN = {
    "tell 1 from 7": ("tell", 1, 7),
    "ask 7 from 4": ("ask", 7, 4),
    "answer 4 from 7 naming 1": ("answer", 4, 7, 1),
    "tell 0 from 0": ("tell", 0, 0),
    "ask 999999999 from 0": ("ask", 999999999, 0),
    "answer 0 from 10 naming 100": ("answer", 0, 10, 100),
}

BAD_NUMBERS = ["", "-1", "+1", "01", "00", "0001", "10000000000", "x", "1.0", "1_0", "0x1", "1e3", "#", "None"]

BAD_LINES = [
    "",
    " ",
    "tell",
    "tell 1",
    "tell 1 from",
    "tell 1 7",
    "tell from 1 7",
    "tell 1 to 7",
    "tell 1 from 7 naming 4",
    "ask 1 from 7 naming 4",
    "ask 1 naming 7",
    "answer 1 from 7",
    "answer 1 from 7 naming",
    "answer 1 from 7 name 4",
    "answer 1 from 7 naming 4 5",
    "answer 1 naming 7 from 4",
    "Tell 1 from 7",
    "tells 1 from 7",
    "read 1 from 7",
    "tell  1 from 7",
    "tell 1 from  7",
    "tell 1 from 7 ",
    " tell 1 from 7",
    "tell 1 from 7\n",
    "\ntell 1 from 7",
    "tell 1 from\n7",
    "tell 1 from 7\ntell 1 from 7",
    "circle 10",
    "house 1 next 7",
    "house 1 next 7 before 4",
]


class LettersTest(unittest.TestCase):
    def test_written_and_read_back(self):
        for text, letter in WRITTEN.items():
            with self.subTest(text=text):
                self.assertEqual(letter_text(letter), text)
                self.assertEqual(parse_letter(text), letter)
                self.assertIs(type(parse_letter(text)), tuple)

    def check_bad(self, text):
        with self.subTest(text=text), self.assertRaises(BadText) as caught:
            parse_letter(text)
        self.assertEqual(caught.exception.line, 1)

    def test_other_forms(self):
        for text in BAD_LINES:
            self.check_bad(text)

    def test_numbers_written_in_another_way(self):
        for number in BAD_NUMBERS:
            self.check_bad(f"tell {number} from 7")
            self.check_bad(f"tell 7 from {number}")
            self.check_bad(f"ask {number} from 7")
            self.check_bad(f"ask 7 from {number}")
            self.check_bad(f"answer {number} from 7 naming 4")
            self.check_bad(f"answer 7 from {number} naming 4")
            self.check_bad(f"answer 7 from 4 naming {number}")

    def test_ten_digits_whatever_the_size_of_a_circle(self):
        most = 9999999999
        self.assertEqual(parse_letter(f"tell {most} from {most}"), ("tell", most, most))
        self.assertEqual(parse_letter(f"ask 1 from {most}"), ("ask", 1, most))
        self.assertEqual(parse_letter(f"answer 1 from 2 naming {most}"), ("answer", 1, 2, most))


if __name__ == "__main__":
    unittest.main()

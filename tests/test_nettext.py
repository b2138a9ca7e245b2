"""Points 24 and 25: nets as text."""

import random
import unittest

from ring_model import ModelNet, random_deed, random_nexts
from ringlaps.errors import BadText
from ringlaps.net import Net
from ringlaps.nettext import format_net, parse_net

FULL = [
    "circle 10",
    "house 0 next 7 before 4",
    "house 4 next 0",
    "house 7 next 7 before 7",
    "tell 7 from 0",
    "ask 0 from 4",
    "answer 4 from 0 naming 7",
]

FULL_NET = Net(
    10,
    {0: 7, 4: 0, 7: 7},
    befores={0: 4, 7: 7},
    letters=[("tell", 7, 0), ("ask", 0, 4), ("answer", 4, 0, 7)],
)


class FormatTest(unittest.TestCase):
    def test_example(self):
        net = Net(10, {1: 7, 7: 1})
        self.assertEqual(net.tell(7), ("tell", 1, 7))
        self.assertEqual(net.read(0), ("before", 1, 7))
        self.assertEqual(format_net(net).split("\n"), ["circle 10", "house 1 next 7 before 7", "house 7 next 1"])

    def test_every_kind_of_line(self):
        self.assertEqual(format_net(FULL_NET), "\n".join(FULL))

    def test_empty_net(self):
        self.assertEqual(format_net(Net(1, {})), "circle 1")
        self.assertEqual(format_net(Net(1000000000, {})), "circle 1000000000")

    def test_before_zero_is_written(self):
        self.assertEqual(format_net(Net(3, {0: 0}, befores={0: 0})), "circle 3\nhouse 0 next 0 before 0")

    def test_houses_in_ascending_order(self):
        net = Net(20, {12: 3, 3: 12, 5: 5})
        lines = ["circle 20", "house 3 next 12", "house 5 next 5", "house 12 next 3"]
        self.assertEqual(format_net(net).split("\n"), lines)

    def test_net_stays(self):
        net = FULL_NET.clone()
        format_net(net)
        self.assertEqual(net.snapshot(), FULL_NET.snapshot())


class ParseTest(unittest.TestCase):
    def test_every_kind_of_line(self):
        net = parse_net("\n".join(FULL))
        self.assertIsInstance(net, Net)
        self.assertEqual(net.snapshot(), FULL_NET.snapshot())

    def test_sizes(self):
        self.assertEqual(parse_net("circle 1").snapshot(), (1, (), ()))
        self.assertEqual(parse_net("circle 1000000000").snapshot(), (1000000000, (), ()))
        self.assertEqual(parse_net("circle 1\nhouse 0 next 0").snapshot(), (1, ((0, 0, None),), ()))
        text = "circle 1000000000\nhouse 999999999 next 999999999"
        self.assertEqual(parse_net(text).nexts(), {999999999: 999999999})

    def test_written_and_read_back(self):
        chance = random.Random(25)
        for _ in range(60):
            size = chance.choice([1, 4, 12, 120])
            nexts = random_nexts(chance, size)
            net = Net(size, nexts)
            model = ModelNet(size, nexts)
            for _ in range(20):
                word, args = random_deed(chance, model)
                getattr(model, word)(*args)
                getattr(net, word)(*args)
            text = format_net(net)
            self.assertEqual(parse_net(text).snapshot(), net.snapshot())
            self.assertEqual(format_net(parse_net(text)), text)

    def test_greatest_text(self):
        nexts = {place: (place + 1) % 40 for place in range(40)}
        net = Net(40, nexts, befores=nexts, letters=[("answer", 39, 0, 12)] * 200)
        self.assertEqual(parse_net(format_net(net)).snapshot(), net.snapshot())


class BadTextTest(unittest.TestCase):
    def check_bad(self, line, lines):
        with self.subTest(lines=lines), self.assertRaises(BadText) as caught:
            parse_net("\n".join(lines))
        self.assertEqual(caught.exception.line, line)

    def check_bad_line(self, wrong):
        """Check that the line is a fault of form as the third line and as the last one."""
        self.check_bad(3, ["circle 10", "house 1 next 4", wrong, "house 4 next 1"])
        self.check_bad(4, ["circle 10", "house 1 next 4", "house 4 next 1", wrong])
        self.check_bad(5, ["circle 10", "house 1 next 4", "house 4 next 1", "tell 4 from 1", wrong])

    def test_empty_text_and_empty_lines(self):
        self.check_bad(1, [""])
        self.check_bad(1, ["", ""])
        self.check_bad(2, ["circle 10", ""])
        self.check_bad(1, ["", "circle 10"])
        self.check_bad_line("")
        self.check_bad_line(" ")

    def test_first_line_is_a_circle_line(self):
        self.check_bad(1, ["house 1 next 1"])
        self.check_bad(1, ["house 1 next 1", "circle 10"])
        self.check_bad(1, ["tell 1 from 1", "circle 10", "house 1 next 1"])
        for line in ("circle", "circle x", "circle 10 ", " circle 10", "circle  10", "circle 10 10", "Circle 10"):
            self.check_bad(1, [line, "house 1 next 1"])
        for number in ("010", "+10", "-10", "10000000000", "00"):
            self.check_bad(1, [f"circle {number}"])

    def test_later_line_is_no_circle_line(self):
        self.check_bad(2, ["circle 10", "circle 10"])
        self.check_bad_line("circle 10")
        self.check_bad_line("circle 3")
        # A number at which there is a house is no better.
        self.check_bad_line("circle 4")

    def test_size(self):
        for number in (0, 1000000001, 9999999999):
            self.check_bad(1, [f"circle {number}"])
            self.check_bad(1, [f"circle {number}", "house 0 next 0"])

    def test_lines_of_no_form(self):
        for wrong in (
            "house",
            "house 5",
            "house 5 next",
            "house 5 next 1 before",
            "house 5 next 1 before 4 4",
            "house 5 before 4",
            "house 5 before 4 next 1",
            "house 5 next 1 after 4",
            "House 5 next 1",
            "house  5 next 1",
            "house 5 next 1 ",
            " house 5 next 1",
            "house 5 next 1 before None",
            "tell 4",
            "tell 4 from 1 ",
            "tell 4  from 1",
            "tell 4 to 1",
            "answer 4 from 1",
            "answer 4 from 1 naming",
            "ask 4 from 1 naming 4",
            "deeds",
            "read 0",
        ):
            self.check_bad_line(wrong)

    def test_numbers_written_in_another_way(self):
        for number in ("", "-5", "+5", "05", "00", "x", "10000000000", "5.0", "#", "1_0"):
            self.check_bad_line(f"house {number} next 1")
            self.check_bad_line(f"house 5 next {number}")
            self.check_bad_line(f"house {number} next 1 before 1")
            self.check_bad_line(f"house 5 next {number} before 1")
            self.check_bad_line(f"house 5 next 1 before {number}")
            self.check_bad_line(f"tell {number} from 1")
            self.check_bad_line(f"tell 1 from {number}")
            self.check_bad_line(f"ask {number} from 1")
            self.check_bad_line(f"ask 1 from {number}")
            self.check_bad_line(f"answer {number} from 1 naming 1")
            self.check_bad_line(f"answer 1 from {number} naming 1")
            self.check_bad_line(f"answer 1 from 4 naming {number}")

    def test_places_not_less_than_the_size(self):
        for number in (10, 11, 9999999999):
            self.check_bad_line(f"house {number} next 1")
            self.check_bad_line(f"house 5 next {number}")
            self.check_bad_line(f"house {number} next 1 before 1")
            self.check_bad_line(f"house 5 next {number} before 1")
            self.check_bad_line(f"house 5 next 1 before {number}")
            self.check_bad_line(f"tell {number} from 1")
            self.check_bad_line(f"tell 1 from {number}")
            self.check_bad_line(f"ask {number} from 1")
            self.check_bad_line(f"ask 1 from {number}")
            self.check_bad_line(f"answer {number} from 1 naming 1")
            self.check_bad_line(f"answer 1 from {number} naming 1")
            self.check_bad_line(f"answer 1 from 4 naming {number}")
        self.check_bad(2, ["circle 1", "house 1 next 0"])

    def test_house_line_after_a_letter_line(self):
        for letter in ("tell 1 from 1", "ask 1 from 1", "answer 1 from 1 naming 1"):
            self.check_bad(4, ["circle 10", "house 1 next 1", letter, "house 4 next 1"])
            self.check_bad(3, ["circle 10", letter, "house 1 next 1"])
            self.check_bad(5, ["circle 10", "house 1 next 1", letter, letter, "house 4 next 1 before 1"])

    def test_houses_not_ascending(self):
        self.check_bad(3, ["circle 10", "house 4 next 4", "house 1 next 1"])
        self.check_bad(3, ["circle 10", "house 4 next 4", "house 4 next 4"])
        self.check_bad(4, ["circle 10", "house 1 next 1", "house 4 next 4 before 1", "house 3 next 4"])
        self.check_bad(3, ["circle 10", "house 0 next 0", "house 0 next 0 before 0"])

    def test_names_without_a_house(self):
        start = ["circle 10", "house 1 next 4", "house 4 next 1 before 4"]
        self.check_bad(2, ["circle 10", "house 1 next 4"])
        self.check_bad(3, ["circle 10", "house 1 next 1", "house 4 next 5"])
        self.check_bad(3, ["circle 10", "house 1 next 1", "house 4 next 4 before 5"])
        for wrong in (
            "tell 5 from 1",
            "tell 1 from 5",
            "ask 5 from 1",
            "ask 1 from 5",
            "answer 5 from 1 naming 4",
            "answer 1 from 5 naming 4",
            "answer 1 from 4 naming 5",
        ):
            self.check_bad(4, [*start, wrong])
            self.check_bad(5, [*start, "tell 1 from 4", wrong, "tell 9 from 9"])
        self.check_bad(2, ["circle 10", "tell 0 from 0"])

    def test_a_house_may_be_named_ahead_of_its_line(self):
        text = "circle 10\nhouse 1 next 9 before 9\nhouse 9 next 1"
        self.assertEqual(parse_net(text).snapshot(), (10, ((1, 9, 9), (9, 1, None)), ()))

    def test_first_of_two_faults_of_form(self):
        self.check_bad(2, ["circle 10", "house x next 4", "", "house 4 next 1"])
        self.check_bad(1, ["circle 0", "house 4 next 9 "])
        self.check_bad(3, ["circle 10", "house 4 next 4", "house 1 next 10", "circle 3"])
        self.check_bad(3, ["circle 10", "house 4 next 4", "tell 10 from 4", "house 5 next 4"])

    def test_form_comes_ahead_of_names(self):
        for wrong in ("", "tell 1 from x", "circle 10", "tell 10 from 1", "house 9 next 9", "house 0 next 1"):
            lines = ["circle 10", "house 1 next 8", "tell 7 from 6", wrong]
            self.check_bad(4, lines)
        self.check_bad(3, ["circle 10", "house 4 next 8", "house 3 next 4"])

    def test_first_of_two_names_without_a_house(self):
        self.check_bad(3, ["circle 10", "house 1 next 1", "house 4 next 5", "tell 8 from 1"])
        self.check_bad(2, ["circle 10", "house 1 next 1 before 0", "house 4 next 5"])


if __name__ == "__main__":
    unittest.main()

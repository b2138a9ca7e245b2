"""Points 88 and 89: deeds and journals as text."""

import random
import unittest

from net_case import mixed_nets
from ringlaps.deeds import deed_text, journal_text, parse_deed, parse_journal
from ringlaps.errors import BadText
from ringlaps.net import Net
from ringlaps.nettext import format_net

# One deed of each of the twelve kinds with its line.
LINES = {
    ("tell", 3): "tell 3",
    ("ask", 14): "ask 14",
    ("read", 0): "read 0",
    ("lose", 199): "lose 199",
    ("repeat", 7): "repeat 7",
    ("admit", 5, 12): "admit 5 host 12",
    ("release", 20): "release 20",
    ("calm",): "calm",
    ("lap", 999999999): "lap 999999999",
    ("carry", 1): "carry 1",
    ("drop", 10): "drop 10",
    ("again", 9999999999): "again 9999999999",
}

WORDS_WITH_A_NUMBER = "tell ask read lose repeat release lap carry drop again".split()

NET_LINES = ["circle 10", "house 1 next 7 before 4", "house 4 next 1", "house 7 next 4", "tell 4 from 7"]
NET = Net(10, {1: 7, 4: 1, 7: 4}, befores={1: 4}, letters=[("tell", 4, 7)])


class DeedTextTest(unittest.TestCase):
    def test_each_deed(self):
        self.assertEqual(len(LINES), 12)
        for deed, line in LINES.items():
            self.assertEqual(deed_text(deed), line)

    def test_numbers(self):
        for word in WORDS_WITH_A_NUMBER:
            for number in (0, 1, 10, 9999999999):
                self.assertEqual(deed_text((word, number)), f"{word} {number}")
        for place, host in [(0, 0), (0, 9999999999), (9999999999, 0)]:
            self.assertEqual(deed_text(("admit", place, host)), f"admit {place} host {host}")


class ParseDeedTest(unittest.TestCase):
    def check_bad(self, line):
        with self.subTest(line=line), self.assertRaises(BadText) as caught:
            parse_deed(line)
        self.assertEqual(caught.exception.line, 1)

    def test_each_deed(self):
        for deed, line in LINES.items():
            found = parse_deed(line)
            self.assertEqual(found, deed)
            self.assertIs(type(found), tuple)

    def test_numbers(self):
        for word in WORDS_WITH_A_NUMBER:
            for number in (0, 1, 10, 9999999999):
                self.assertEqual(parse_deed(f"{word} {number}"), (word, number))
        self.assertEqual(parse_deed("admit 0 host 0"), ("admit", 0, 0))
        self.assertEqual(parse_deed("admit 9999999999 host 9999999999"), ("admit", 9999999999, 9999999999))

    def test_no_word_and_words_that_are_none(self):
        for line in ("", " ", "7", "7 7", "deeds", "let", "let 7", "go 7", "hold 1 4", "take 1", "circle 10"):
            self.check_bad(line)
        for word in ["TELL", "Tell", "tel", "telll", "write_lap", "drop_lap", "undo", "admits", "house"]:
            self.check_bad(f"{word} 7")
            self.check_bad(f"{word} 7 host 4")
            self.check_bad(word)

    def test_too_few_and_too_many_numbers(self):
        for word in WORDS_WITH_A_NUMBER:
            for line in (word, f"{word} 1 2", f"{word} 1 host 2", f"{word} 1 from 2", f"{word} 1 {word}"):
                self.check_bad(line)
        for line in ("calm 1", "calm 0", "calm calm", "calm host"):
            self.check_bad(line)
        lines = "admit|admit 1|admit 1 host|admit 1 2|admit host 2|admit 1 host 2 3|admit 1 host 2 host 3|admit host"
        for line in lines.split("|"):
            self.check_bad(line)

    def test_other_word_than_host(self):
        for word in ("Host", "hosts", "hos", "next", "from", "7", ""):
            self.check_bad(f"admit 1 {word} 4")

    def check_each_number(self, wrong):
        for word in WORDS_WITH_A_NUMBER:
            self.check_bad(f"{word} {wrong}")
        self.check_bad(f"admit {wrong} host 4")
        self.check_bad(f"admit 1 host {wrong}")

    def test_numbers_that_are_not_written_as_they_should_be(self):
        for wrong in ("", "00", "01", "007", "+7", "-7", "-0", "7.0", "7,", "1e3", "0x7", "1_0", "seven", "None"):
            self.check_each_number(wrong)
        for wrong in ("10000000000", "99999999999", "1" * 40, "0" * 11, "00000000001"):
            self.check_each_number(wrong)

    def test_blanks_and_newlines(self):
        for line in LINES.values():
            for wrong in (f" {line}", f"{line} ", f"{line}\n", f"\n{line}", f"{line}\n{line}", f"  {line}"):
                self.check_bad(wrong)
            parts = line.split(" ")
            for at in range(1, len(parts)):
                first, last = " ".join(parts[:at]), " ".join(parts[at:])
                for blank in ("  ", "\n", " \n", "\n ", "", "-"):
                    self.check_bad(first + blank + last)


class JournalTextTest(unittest.TestCase):
    def test_no_deed(self):
        self.assertEqual(journal_text(Net(10, {}), []), "circle 10\ndeeds")
        self.assertEqual(journal_text(NET, []).split("\n"), [*NET_LINES, "deeds"])

    def test_several_deeds(self):
        deeds = list(LINES)
        earlier = NET.snapshot()
        text = journal_text(NET, deeds)
        self.assertEqual(text.split("\n"), [*NET_LINES, "deeds", *LINES.values()])
        self.assertEqual((NET.snapshot(), deeds), (earlier, list(LINES)))
        self.assertEqual(journal_text(Net(1, {0: 0}), [("calm",)] * 2), "circle 1\nhouse 0 next 0\ndeeds\ncalm\ncalm")


class ParseJournalTest(unittest.TestCase):
    def check_journal(self, lines, net, deeds):
        found = parse_journal("\n".join(lines))
        self.assertIs(type(found), tuple)
        self.assertEqual(len(found), 2)
        self.assertIsInstance(found[0], Net)
        self.assertEqual(found[0].snapshot(), net.snapshot())
        self.assertEqual(found[1], deeds)
        self.assertIs(type(found[1]), list)

    def check_bad(self, line, lines):
        with self.subTest(lines=lines), self.assertRaises(BadText) as caught:
            parse_journal("\n".join(lines))
        self.assertEqual(caught.exception.line, line)

    def test_journals(self):
        self.check_journal(["circle 10", "deeds"], Net(10, {}), [])
        self.check_journal([*NET_LINES, "deeds"], NET, [])
        self.check_journal([*NET_LINES, "deeds", *LINES.values()], NET, list(LINES))
        self.check_journal([*NET_LINES, "deeds", "calm", "calm"], NET, [("calm",), ("calm",)])

    def test_deeds_need_not_be_possible(self):
        deeds = [("tell", 5), ("read", 200), ("admit", 9999999999, 1), ("carry", 0)]
        lines = ["tell 5", "read 200", "admit 9999999999 host 1", "carry 0"]
        self.check_journal([*NET_LINES, "deeds", *lines], NET, deeds)

    def test_written_and_read_back(self):
        chance = random.Random(89)
        for net in mixed_nets(chance, 60):
            deeds = chance.choices(list(LINES), k=chance.randrange(12))
            text = journal_text(net, deeds)
            self.check_journal(text.split("\n"), net, deeds)
            self.assertEqual(text, "\n".join([format_net(net), "deeds", *[LINES[deed] for deed in deeds]]))

    def test_greatest_journal(self):
        nexts = {place: (place + 1) % 40 for place in range(40)}
        net = Net(40, nexts, befores=nexts, letters=[("answer", 39, 0, 12)] * 200)
        deeds = [("admit", place, 0) for place in range(200)]
        self.check_journal(journal_text(net, deeds).split("\n"), net, deeds)

    def test_no_line_of_deeds(self):
        self.check_bad(2, ["circle 10"])
        self.check_bad(5, NET_LINES[:4])
        self.check_bad(6, NET_LINES)
        # A line that is not exactly this word is taken for a line of the net.
        for wrong in ("deeds ", " deeds", "Deeds", "deed", "deeds 0", "deedsdeeds"):
            self.check_bad(6, [*NET_LINES, wrong])
            self.check_bad(6, [*NET_LINES, wrong, "calm"])
            self.check_bad(6, [*NET_LINES, wrong, "deeds", "calm"])

    def test_line_of_deeds_as_the_first_line(self):
        self.check_bad(1, ["deeds"])
        self.check_bad(1, ["deeds", "calm"])
        self.check_bad(1, ["deeds", *NET_LINES])
        self.check_bad(1, ["deeds", "deeds", "nothing"])

    def test_two_lines_of_deeds(self):
        self.check_bad(7, [*NET_LINES, "deeds", "deeds"])
        self.check_bad(9, [*NET_LINES, "deeds", "calm", "tell 4", "deeds"])
        self.check_bad(8, [*NET_LINES, "deeds", "calm", "deeds", "deeds"])
        self.check_bad(3, ["circle 10", "deeds", "deeds", "house 1 next 1"])

    def test_empty_text(self):
        self.check_bad(1, [""])
        self.check_bad(1, ["", "deeds"])
        self.check_bad(1, ["", ""])

    def test_faults_of_the_net(self):
        for line, wrong in [
            (1, "circle 0"),
            (1, "calm"),
            (2, "house 1 next 10"),
            (2, "house 1 next 8"),
            (3, "house 1 next 1"),
            (3, ""),
            (4, "house 7 next 4 before 2"),
            (5, "calm"),
            (5, "tell 4 from 5"),
        ]:
            lines = [*NET_LINES[: line - 1], wrong, *NET_LINES[line:]]
            self.check_bad(line, [*lines, "deeds"])
            self.check_bad(line, [*lines, "deeds", "calm", "nonsense"])
            # The fault of the net is told also where there is no line of deeds.
            self.check_bad(line, lines)

    def test_names_are_checked_ahead_of_the_deeds(self):
        # The second look at the lines of the net finds the fault, and still comes first.
        lines = ["circle 10", "house 1 next 4", "house 7 next 1"]
        self.check_bad(2, [*lines, "deeds", "nonsense"])
        self.check_bad(2, lines)
        self.check_bad(4, [*lines, "nonsense"])
        self.check_bad(4, [*lines, "nonsense", "deeds"])
        self.check_bad(4, ["circle 10", "house 1 next 1", "tell 1 from 1", "tell 1 from 3", "deeds", "calm"])

    def test_faults_after_the_line_of_deeds(self):
        lines = [*NET_LINES, "deeds", "calm", "tell 4"]
        for wrong in ("", " ", "nonsense", "tell", "calm ", "tell 04", "circle 10", "house 1 next 1", "tell 4 from 7"):
            self.check_bad(7, [*NET_LINES, "deeds", wrong])
            self.check_bad(7, [*NET_LINES, "deeds", wrong, "calm", "nonsense"])
            self.check_bad(9, [*lines, wrong])
            self.check_bad(9, [*lines, wrong, "calm", ""])
            self.check_bad(10, [*lines, "calm", wrong])

    def test_newline_at_the_end(self):
        self.check_bad(7, [*NET_LINES, "deeds", ""])
        self.check_bad(8, [*NET_LINES, "deeds", "calm", ""])
        self.check_bad(6, [*NET_LINES, ""])

    def test_text_that_is_cut_off_at_each_line(self):
        lines = [*NET_LINES, "deeds", *LINES.values()]
        for count in range(6, len(lines) + 1):
            self.check_journal(lines[:count], NET, list(LINES)[: count - 6])
        for count, line in [(0, 1), (1, 2), (2, 2), (3, 2), (4, 5), (5, 6)]:
            self.check_bad(line, lines[:count])

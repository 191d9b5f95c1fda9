"""Points 2 and 10: whole numbers and programs as texts."""

import copy
import random
import re
import unittest

from midlanes.errors import Faulty, LaneError, NoText, NotFormed
from midlanes.texts import read, read_whole, shown

GREATEST = 10 ** 60 - 1
MILLION = 1000000

# All signs that a text may have.
SIGNS = [chr(n) for n in range(32, 127) if chr(n) != "%"] + ["\n"]

NUMBERS = {"put": 2, "copy": 2, "plus": 3, "less": 3, "times": 3, "take": 1, "tell": 1, "jump": 1, "zero": 2,
           "below": 2, "back": 1}

ALL_WORDS = [
    (0, 3, [
        ("put", 0, -12),
        ("copy", 1, 0),
        ("plus", 2, 0, 1),
        ("less", 2, 1, 0),
        ("times", 0, 2, -99),
        ("take", 1),
        ("tell", 2),
        ("zero", 0, 11),
        ("below", 1, 0),
        ("call", 1, 0, ()),
        ("call", 0, 1, (1, 2)),
        ("jump", 3),
        ("back", 2),
    ]),
    (2, 8, [("back", 7)]),
]
ALL_WORDS_TEXT = """def 0 3
put 0 -12
copy 1 0
plus 2 0 1
less 2 1 0
times 0 2 -99
take 1
tell 2
zero 0 11
below 1 0
call 1 0
call 0 1 1 2
jump 3
back 2
def 2 8
back 7"""


def is_written(text, most):
    return re.fullmatch(r"0|-?[1-9][0-9]*", text) is not None and len(text.strip("-")) <= most


def is_row_written(line):
    parts = line.split(" ")
    if not all(is_written(part, 60) for part in parts[1:]):
        return False
    if parts[0] == "call":
        return len(parts) >= 3
    return len(parts) - 1 == {**NUMBERS, "def": 2}.get(parts[0])


def written_so(text):
    """The program that the text is, or None: another way than the package's own."""
    lines = text.split("\n")
    if not (lines[0].startswith("def ") and all(is_row_written(line) for line in lines)):
        return None
    program = []
    for line in lines:
        word, *parts = line.split(" ")
        numbers = tuple(int(part) for part in parts)
        if word == "def":
            program.append((*numbers, []))
        elif word == "call":
            program[-1][2].append((word, *numbers[:2], numbers[2:]))
        else:
            program[-1][2].append((word, *numbers))
    return program


def text_of(program):
    """The text of any program, formed or not."""
    lines = []
    for takes, boxes, rows in program:
        lines.append(f"def {takes} {boxes}")
        for row in rows:
            numbers = [*row[1:3], *row[3]] if row[0] == "call" else row[1:]
            lines.append(" ".join([row[0], *map(str, numbers)]))
    return "\n".join(lines)


def random_row(rng, boxes, count, takes):
    """A row that fits into a def of so many boxes and rows; takes are those of all defs."""
    box = lambda: rng.randrange(boxes)
    word = rng.choice([*NUMBERS, "call"])
    if word == "call":
        f = rng.randrange(len(takes))
        return (word, box(), f, tuple(box() for k in range(takes[f])))
    if word == "put":
        return (word, box(), rng.choice([0, -1, rng.randint(-GREATEST, GREATEST), rng.randint(-9, 9)]))
    if word == "times":
        return (word, box(), box(), rng.randint(-99, 99))
    if word == "jump":
        return (word, rng.randrange(count))
    if word in ("zero", "below"):
        return (word, box(), rng.randrange(count))
    return (word, *[box() for k in range(NUMBERS[word])])


def random_program(rng):
    boxes = [rng.randint(1, 8) for k in range(rng.randint(1, 6))]
    takes = [0] + [rng.randint(0, min(4, many)) for many in boxes[1:]]
    program = []
    for f, many in enumerate(boxes):
        count = rng.randint(1, 30)
        rows = [random_row(rng, many, count, takes) for at in range(count - 1)]
        last = rng.choice([("back", rng.randrange(many)), ("jump", rng.randrange(count))])
        program.append((takes[f], many, rows + [last]))
    return program


class TextCase(unittest.TestCase):
    def assert_refused(self, called, *args):
        try:
            told = called(*args)
        except ValueError as refusal:
            self.assertIsInstance(refusal, NoText)
            self.assertNotIsInstance(refusal, (NotFormed, Faulty))
        else:
            self.fail(f"{args!r:.300} was not refused, but told as {told!r:.300}")

    def assert_program(self, told, expected):
        """The same program, each part of its kind."""
        self.assertEqual(told, expected)
        self.assertIs(type(told), list)
        for one in told:
            self.assertEqual([type(part) for part in one], [int, int, list])
            self.assertIs(type(one), tuple)
            for row in one[2]:
                self.assertIs(type(row), tuple)
                kinds = [int, int, tuple] if row[0] == "call" else [int] * (len(row) - 1)
                self.assertEqual([type(part) for part in row], [str] + kinds)
                if row[0] == "call":
                    self.assertEqual({type(q) for q in row[3]} - {int}, set())

    def assert_no_list_twice(self, programs):
        lists = [program for program in programs] + [one[2] for program in programs for one in program]
        self.assertEqual(len({id(one) for one in lists}), len(lists))


class ReadWhole(TextCase):
    def assert_whole(self, text, most):
        told = read_whole(text, most)
        self.assertEqual(told, int(text))
        self.assertIs(type(told), int)

    def assert_as_written(self, text, most):
        if is_written(text, most):
            self.assert_whole(text, most)
        else:
            self.assert_refused(read_whole, text, most)

    def test_ordinary_numbers(self):
        for n in (0, 1, -1, 7, -9, 10, -10, 42, 100, -907, 1000000, 98765432109876543210, -98765432109876543210):
            self.assert_whole(str(n), 60)
            self.assert_whole(str(n), 300)
            self.assertEqual(read_whole(str(n), 20), n)

    def test_all_numbers_of_three_figures(self):
        for n in range(-999, 1000):
            for most in (1, 2, 3, 4):
                self.assert_as_written(str(n), most)

    def test_one_to_most_figures(self):
        for most in range(1, 301):
            for figures in {1, (most + 1) // 2, most - 1, most} - {0}:
                for text in ("9" * figures, "1" + "0" * (figures - 1), "12345678907"[:figures].ljust(figures, "3")):
                    self.assert_whole(text, most)
                    self.assert_whole("-" + text, most)

    def test_one_figure_too_many(self):
        for most in range(1, 301):
            for figures in (most + 1, most + 2, 2 * most + 1):
                for text in ("9" * figures, "1" + "0" * (figures - 1)):
                    self.assert_refused(read_whole, text, most)
                    self.assert_refused(read_whole, "-" + text, most)
        for most in (1, 2, 60, 299, 300):
            self.assert_refused(read_whole, "1" * 1000, most)
            self.assert_refused(read_whole, "-" + "1" * 1000, most)

    def test_a_0_ahead(self):
        for most in (1, 2, 3, 60, 300):
            self.assert_whole("0", most)
            for text in ("-0", "00", "-00", "000", "01", "-01", "007", "-007", "0-1", "00000000000000000000001"):
                self.assert_refused(read_whole, text, most)
            self.assert_refused(read_whole, "0" * most + "0", most)
            self.assert_refused(read_whole, "-" + "0" * most, most)
            self.assert_refused(read_whole, "0" + "5" * most, most)

    def test_no_figures(self):
        for most in (1, 2, 60, 300):
            for text in ("", "-", "--", "+", " ", "\n", "- ", " -", "-\n", "\n\n", "a", "-a", ".", "def", "one"):
                self.assert_refused(read_whole, text, most)

    def test_other_ways_to_write_numbers(self):
        for text in ("+1", "+0", "-+1", "+-1", "--1", "1-", "1+", "1_000", "_1", "1_", "1.0", "1.", ".1", "1e3", "1E3",
                     "0x1", "0b1", "0o7", "1,000", "1 000", " 1", "1 ", "\n1", "1\n", "-1\n", "- 1", "-\n1", "(1)",
                     "1L", "1j", "'1'", "\"1\"", "1;", "1:", "~1", "1/1", "inf", "nan", "True", "None", "1 2", "1\n2"):
            self.assert_refused(read_whole, text, 60)
            self.assert_refused(read_whole, text, 300)

    def test_all_short_texts(self):
        texts = [""]
        for length in range(4):
            texts = texts + [text + sign for text in texts if len(text) == length for sign in "019-+ \n_.a"]
        self.assertEqual(len(texts), 1 + 10 + 100 + 1000 + 10000)
        for text in texts:
            self.assert_as_written(text, 1 + len(text) % 3)

    def test_each_sign_at_each_place(self):
        for text in ("0", "5", "-5", "10", "120", "-9070"):
            for at in range(len(text) + 1):
                for sign in SIGNS:
                    for most in (1, 3, 4, 60):
                        self.assert_as_written(text[:at] + sign + text[at:], most)
                        self.assert_as_written(text[:at] + sign + text[at + 1:], most)

    def test_long_texts(self):
        for text in ("-" * MILLION, " " * MILLION, "\n" * MILLION, "x" * MILLION, "1 " * (MILLION // 2),
                     "1\n" * (MILLION // 2), "1-" * (MILLION // 2), "1" + " " * (MILLION - 1),
                     " " * (MILLION - 1) + "1"):
            self.assert_refused(read_whole, text, 300)

    def test_each_refusal_takes_it(self):
        for kind in (NoText, LaneError, ValueError):
            for text in ("", "x", "-0", "01", "123"):
                self.assertRaises(kind, read_whole, text, 2)

    def test_the_same_text_is_read_anew(self):
        self.assert_refused(read_whole, "123", 2)
        self.assert_whole("123", 3)
        self.assert_refused(read_whole, "123", 2)


class Shown(TextCase):
    def assert_shown(self, program, expected):
        before = copy.deepcopy(program)
        told = shown(program)
        self.assertEqual(told, expected)
        self.assertIs(type(told), str)
        self.assertEqual(program, before)

    def test_all_words(self):
        self.assertEqual({row[0] for row in ALL_WORDS[0][2]}, {*NUMBERS, "call"})
        self.assert_shown(ALL_WORDS, ALL_WORDS_TEXT)

    def test_the_least_programs(self):
        self.assert_shown([(0, 1, [("back", 0)])], "def 0 1\nback 0")
        self.assert_shown([(0, 1, [("jump", 0)])], "def 0 1\njump 0")

    def test_calls_of_no_to_four_qs(self):
        for many in range(5):
            rows = [("call", 7, 1, (3, 0, 5, 3)[:many]), ("back", 0)]
            self.assert_shown([(0, 8, rows), (many, 8, [("back", 1)])],
                              "def 0 8\n" + ("call 7 1 3 0 5 3")[:8 + 2 * many] + f"\nback 0\ndef {many} 8\nback 1")

    def test_numbers_of_sixty_figures(self):
        for n in (GREATEST, -GREATEST, 10 ** 59, -(10 ** 59), 0):
            self.assert_shown([(0, 1, [("put", 0, n), ("back", 0)])], f"def 0 1\nput 0 {n}\nback 0")

    def test_the_greatest_program(self):
        rows = [("call", 7, 5, (0, 7, 3, 7))] * 29 + [("jump", 29)]
        body = "\ncall 7 5 0 7 3 7" * 29 + "\njump 29"
        program = [(0, 8, list(rows))] + [(4, 8, list(rows)) for k in range(5)]
        self.assert_shown(program, "def 0 8" + body + ("\ndef 4 8" + body) * 5)

    def test_any_formed_programs(self):
        rng = random.Random(10)
        for time in range(200):
            program = random_program(rng)
            self.assert_shown(program, text_of(program))

    def test_the_program_is_shown_anew(self):
        program = copy.deepcopy(ALL_WORDS)
        self.assert_shown(program, ALL_WORDS_TEXT)
        program[1][2][0] = ("back", 6)
        self.assert_shown(program, ALL_WORDS_TEXT[:-1] + "6")
        program.pop()
        program[0][2][10] = ("put", 1, 0)
        self.assert_shown(program, ALL_WORDS_TEXT.replace("call 0 1 1 2", "put 1 0").replace("\ndef 2 8\nback 7", ""))


class Read(TextCase):
    def assert_read(self, program):
        """Reads the program's text twice: the same program, in lists of its own."""
        text = text_of(program)
        first = read(text)
        self.assert_program(first, program)
        second = read(text)
        self.assert_no_list_twice([first, second])
        first[-1][2].append(("back", 0))
        first.append((0, 1, []))
        self.assert_program(second, program)
        self.assert_program(read(text), program)

    def test_all_words(self):
        self.assert_program(read(ALL_WORDS_TEXT), ALL_WORDS)
        self.assert_read(ALL_WORDS)

    def test_the_least_programs(self):
        self.assert_program(read("def 0 1\nback 0"), [(0, 1, [("back", 0)])])
        self.assert_program(read("def 0 1\njump 0"), [(0, 1, [("jump", 0)])])

    def test_what_is_shown_is_read(self):
        rng = random.Random(11)
        for time in range(200):
            program = random_program(rng)
            self.assert_program(read(shown(program)), program)
            self.assert_read(program)

    def test_like_rows_and_defs(self):
        self.assert_read([(0, 1, [("back", 0)])] * 6)
        self.assert_read([(0, 2, [("tell", 1)] * 29 + [("back", 0)])] * 2)

    def test_defs_without_rows(self):
        self.assert_program(read("def 0 1"), [(0, 1, [])])
        self.assert_program(read("def 0 1\ndef 2 3"), [(0, 1, []), (2, 3, [])])
        self.assert_program(read("def 0 1\ndef 0 1\nback 0"), [(0, 1, []), (0, 1, [("back", 0)])])
        self.assert_program(read("def 0 1\nback 0\ndef -4 0"), [(0, 1, [("back", 0)]), (-4, 0, [])])
        self.assert_read([(k, -k, []) for k in range(40)])

    def test_calls_of_none_and_of_many_qs(self):
        for many in (0, 1, 2, 3, 4, 5, 6, 30, 400):
            self.assert_read([(0, 1, [("call", 5, -6, tuple(range(-2, many - 2)))])])
        self.assert_program(read("def 0 1\ncall 1 2"), [(0, 1, [("call", 1, 2, ())])])
        self.assert_program(read("def 0 1\ncall 1 2 3"), [(0, 1, [("call", 1, 2, (3,))])])
        self.assert_program(read("def 0 1\ncall 1 2 3 -4 5 0"), [(0, 1, [("call", 1, 2, (3, -4, 5, 0))])])

    def test_any_numbers_in_all_places(self):
        for n in (0, 1, -1, 8, 9, 30, 99, 100, -100, 10 ** 59, -(10 ** 59), GREATEST, -GREATEST):
            for word, many in {**NUMBERS, "call": 2}.items():
                for at in range(many):
                    numbers = [0] * many
                    numbers[at] = n
                    row = (word, *numbers, (n,)) if word == "call" else (word, *numbers)
                    self.assert_read([(0, 1, [row])])
            self.assert_read([(n, 1, []), (0, n, [])])

    def test_last_rows_and_lengths_that_are_not_formed(self):
        self.assert_read([(0, 1, [("put", 0, 1)])])
        self.assert_read([(1, 1, [("put", 0, 1)] * 31)])
        self.assert_read([(0, 1, [("back", 0)])] * 7)
        self.assert_read([(0, 1, [("back", 0)] * 30)] * 400)
        self.assert_read([(0, 1, [("back", 0)] * 400)] * 6)

    def test_any_programs_that_are_not_formed(self):
        rng = random.Random(12)
        for time in range(300):
            number = lambda: rng.choice([rng.randint(-3, 12), rng.randint(-GREATEST, GREATEST)])
            program = []
            for f in range(rng.randint(1, 8)):
                rows = []
                for at in range(rng.choice([0, 1, 3, 35])):
                    word = rng.choice([*NUMBERS, "call", "call"])
                    numbers = [number() for k in range(NUMBERS.get(word, 2))]
                    qs = [tuple(number() for k in range(rng.randint(0, 6)))] if word == "call" else []
                    rows.append((word, *numbers, *qs))
                program.append((number(), number(), rows))
            self.assert_read(program)


class Refused(TextCase):
    def assert_as_written(self, text):
        expected = written_so(text)
        if expected is None:
            self.assert_refused(read, text)
        else:
            self.assert_program(read(text), expected)

    def test_each_refusal_takes_it(self):
        for kind in (NoText, LaneError, ValueError):
            for text in ("", "back 0", "def 0", "def 0 1\nhalt", "def 0 1\nput 0", "def 0 1\ncall 0", "def 0 01"):
                self.assertRaises(kind, read, text)

    def test_an_empty_text(self):
        for text in ("", " ", "\n", "  ", "\n\n", " \n "):
            self.assert_refused(read, text)

    def test_a_first_row_of_text_that_is_no_head(self):
        for text in ("back 0", "put 0 0", "back 0\ndef 0 1", "put 0 1\ndef 0 1\nback 0", "\ndef 0 1\nback 0",
                     "jump 0\ndef 0 1\nback 0", "call 0 0\ndef 0 1\nback 0", "0 1\nback 0", "head 0 1\nback 0"):
            self.assert_refused(read, text)

    def test_heads_of_too_few_and_too_many_numbers(self):
        for head in ("def", "def 0", "def 0 1 2", "def 0 1 2 3", "def 0 1 back 0", "def0 1", "def 01", "def 0  1"):
            for text in (head, head + "\nback 0", "def 0 1\nback 0\n" + head, "def 0 1\n" + head + "\nback 0",
                         "def 0 1\nback 0\n" + head + "\nback 0"):
                self.assert_refused(read, text)

    def test_words_that_are_none_of_the_table(self):
        for word in ("halt", "add", "puts", "pu", "p", "", "-", "0", "7", "go", "test", "hold", "leave", "edge",
                     "stand", "frame", "take-", "put,", "defs", "de", "end", "number", "box", "jump:", "zero0"):
            for many in range(5):
                row = " ".join([word] + ["0"] * many)
                self.assert_refused(read, "def 0 1\n" + row + "\nback 0")
                self.assert_refused(read, "def 0 1\n" + row)
                self.assert_refused(read, row + "\nback 0")

    def test_too_few_and_too_many_numbers(self):
        for word in NUMBERS:
            for many in range(8):
                text = "def 0 1\n" + " ".join([word] + ["0"] * many)
                for whole in (text, text + "\nback 0"):
                    if many == NUMBERS[word]:
                        self.assertEqual(len(read(whole)[0][2]), len(whole.split("\n")) - 1)
                    else:
                        self.assert_refused(read, whole)

    def test_calls_of_none_and_one_number(self):
        for row in ("call", "call 0", "call -3"):
            self.assert_refused(read, "def 0 1\n" + row)
            self.assert_refused(read, "def 0 1\n" + row + "\nback 0")

    def test_numbers_that_are_not_so_written(self):
        wrong = ["", "-", "--1", "+1", "01", "00", "-0", "-00", "-01", "1-", "1_0", "1.0", "x", "0x1", "1e2", "1,",
                 "(1)", "a", "put", "1" * 61, "-" + "1" * 61, "1" + "0" * 60, "0" * 60, "9" * 1000, "-" + "9" * 1000]
        rows = [(word, many) for word, many in NUMBERS.items()] + [("call", 2), ("call", 3), ("call", 6), ("def", 2)]
        for word, many in rows:
            for at in range(many):
                for number in wrong:
                    numbers = ["0"] * many
                    numbers[at] = number
                    row = " ".join([word] + numbers)
                    self.assert_refused(read, "def 0 1\n" + row)
                    self.assert_refused(read, "def 0 1\nback 0\n" + row + "\nback 0")
                    if word == "def":
                        self.assert_refused(read, row)
                        self.assert_refused(read, row + "\nback 0")

    def test_capitals(self):
        for word in [*NUMBERS, "call", "def"]:
            for other in (word.upper(), word.capitalize(), word[:-1] + word[-1].upper()):
                for numbers in (" 0", " 0 0", " 0 0 0"):
                    self.assert_refused(read, "def 0 1\n" + other + numbers)
                    self.assert_refused(read, other + numbers)

    def test_blanks(self):
        lines = ALL_WORDS_TEXT.split("\n")
        for at, line in enumerate(lines):
            places = [place for place, sign in enumerate(line) if sign == " "] + [0, len(line)]
            for place in places:
                for more in (" ", "  "):
                    wrong = line[:place] + more + line[place:]
                    self.assert_refused(read, "\n".join(lines[:at] + [wrong] + lines[at + 1:]))

    def test_line_feeds(self):
        lines = ALL_WORDS_TEXT.split("\n")
        for at in range(len(lines) + 1):
            self.assert_refused(read, "\n".join(lines[:at] + [""] + lines[at:]))
            self.assert_refused(read, "\n".join(lines[:at] + ["", ""] + lines[at:]))
            self.assert_refused(read, "\n".join(lines[:at] + [" "] + lines[at:]))
        for text in ("def 0 1", "def 0 1\nback 0"):
            self.assert_refused(read, text + "\n")
            self.assert_refused(read, "\n" + text)
            self.assert_refused(read, text + "\n\n")

    def test_a_sign_left_out(self):
        for at in range(len(ALL_WORDS_TEXT)):
            self.assert_as_written(ALL_WORDS_TEXT[:at] + ALL_WORDS_TEXT[at + 1:])

    def test_a_sign_put_in_or_exchanged(self):
        text = "def 0 3\nput 0 -12\ncall 1 0\ncall 0 1 1 20\nzero 10 0\ndef 2 8\nback 7"
        read_too = 0
        for at in range(len(text) + 1):
            for sign in SIGNS:
                self.assert_as_written(text[:at] + sign + text[at:])
                self.assert_as_written(text[:at] + sign + text[at + 1:])
                read_too += written_so(text[:at] + sign + text[at:]) is not None
        self.assertGreater(read_too, 50)

    def test_two_signs_exchanged(self):
        for at in range(len(ALL_WORDS_TEXT) - 1):
            self.assert_as_written(ALL_WORDS_TEXT[:at] + ALL_WORDS_TEXT[at + 1] + ALL_WORDS_TEXT[at]
                                   + ALL_WORDS_TEXT[at + 2:])

    def test_rows_of_text_left_out_or_turned(self):
        lines = ALL_WORDS_TEXT.split("\n")
        for at in range(len(lines)):
            self.assert_as_written("\n".join(lines[:at] + lines[at + 1:]))
            self.assert_as_written("\n".join(lines[at:] + lines[:at]))


class Long(TextCase):
    def test_many_rows_of_text(self):
        text = "def 0 1" + "\njump 0" * 141856
        self.assertLessEqual(len(text), MILLION)
        self.assert_program(read(text), [(0, 1, [("jump", 0)] * 141856)])
        for wrong in ("\n", "\njump", "\njump 0 ", "\njump 00", " 0", "\njump 0\n"):
            self.assert_refused(read, text[:-14] + wrong)
        self.assert_refused(read, text[1:])

    def test_many_defs(self):
        text = "\n".join(["def 0 1"] * (MILLION // 8))
        told = read(text)
        self.assert_program(told, [(0, 1, [])] * (MILLION // 8))
        self.assert_no_list_twice([told])
        self.assert_refused(read, text + "\n")

    def test_a_call_of_many_qs(self):
        text = "def 0 1\ncall 0 0" + " 7" * 499991
        self.assertLessEqual(len(text), MILLION)
        self.assert_program(read(text), [(0, 1, [("call", 0, 0, (7,) * 499991)])])
        self.assert_refused(read, text[:-1] + "-")
        self.assert_refused(read, text[:-1])

    def test_many_great_numbers(self):
        text = "def 0 1" + f"\nput 0 -{GREATEST}" * 14700
        self.assertLessEqual(len(text), MILLION)
        self.assert_program(read(text), [(0, 1, [("put", 0, -GREATEST)] * 14700)])
        self.assert_refused(read, text + "9")

    def test_long_texts_that_are_none(self):
        for text in (" " * MILLION, "\n" * MILLION, "d" * MILLION, "def " * (MILLION // 4), "def\n" * (MILLION // 4),
                     "-" * MILLION, "def 0 1\n" * (MILLION // 8), "def 0 1 " * (MILLION // 8), "0 " * (MILLION // 2),
                     "def 0 1\n" + "x" * (MILLION - 8), "def 0 1" + " " * (MILLION - 7),
                     "def 0 1" + "\n" * (MILLION - 7),
                     "def 0 1\nput 0 " + "-" * (MILLION - 14), "def 0 1\nput" + " 0" * 499994,
                     "def 0 1\nback 0" + "\n9" * 499993, "def" + " 0" * 499998):
            self.assertLessEqual(len(text), MILLION)
            self.assert_refused(read, text)


if __name__ == "__main__":
    unittest.main()

"""Points 2, 9, 10, 20, 21, 28 and 29: lanes as texts, and answers."""

import copy
import random
import re
import unittest

from midlanes.books import answer, read_lane, shown_lane
from midlanes.errors import Faulty, LaneError, NoText, NotFormed
from midlanes.hand import run
from midlanes.judge import fault
from midlanes.maker import made
from midlanes.texts import shown

from helpers import A, B, BASE, C, Grower, LEAVE, LOOP, MAIN, lists_in, num, random_program

GREATEST = 10 ** 300 - 1
MILLION = 1000000
SIGNS = [chr(n) for n in range(32, 127) if chr(n) != "%"] + ["\n"]

NUMBER = "(?:0|-?[1-9][0-9]{0,299})"
FORM = f"{NUMBER}(?:;{NUMBER}:{NUMBER})*"
EDGE = f"\nedge {NUMBER} {NUMBER}(?: {FORM})*"
DEED = f"(?:leave|(?:go|tell|take|hold {NUMBER} {NUMBER}){EDGE}|test{EDGE}{EDGE})"
STAND = f"stand {NUMBER}(?:\nframe {NUMBER} {NUMBER}(?: {FORM})*)*\n{DEED}"
LANE = re.compile(f"{STAND}(?:\n{STAND})*")

MAIN_TEXT = shown(MAIN)
BASE_TEXT = """stand 3
frame 0 0 0;1:0 0;1:1 0;1:2
go
edge 2 1 5;1:0 0;1:2
stand 2
frame 0 2 0;1:0 5 0;1:1
take
edge 0 2 0;1:0 0;1:2
stand 2
frame 0 3 0;1:0 5 0;1:1
tell
edge 0 3 0;1:0 0;1:1
stand 2
frame 0 4 0;1:0 5 0;1:1
test
edge 0 4 0;1:0 0;1:1
edge 0 5 0;1:0 0;1:1
stand 2
frame 0 7 0;1:0 5 0;1:1
leave
stand 2
frame 0 5 0;1:0 5 0;1:1
hold 1 3
edge 0 7 0;1:0
stand 2
frame 0 5 0;1:0 5 0;1:1
frame 1 1 0;1:0;-1:1 0;1:1
test
edge 3 0 0;1:0 0;-1:0;1:1 0;1:1
edge 2 0 0;1:0 0;1:0;-1:1 0;1:1
stand 1
frame 0 5 0;1:0 5 3
go
edge 2 6 0;1:0 3"""


class BookCase(unittest.TestCase):
    def assert_shown(self, lane, text):
        before = copy.deepcopy(lane)
        self.assertEqual(shown_lane(lane), text)
        self.assertEqual(shown_lane(lane), text)
        self.assertEqual(lane, before)
        self.assert_read(text, before)

    def assert_read(self, text, lane):
        told = read_lane(text)
        self.assertEqual(told, lane)
        self.assert_kinds(told)
        again = read_lane(text)
        self.assertEqual(again, told)
        self.assertFalse({id(one) for one in lists_in(told)} & {id(one) for one in lists_in(again)})

    def assert_kinds(self, lane):
        self.assertIs(type(lane), list)
        lists = lists_in(lane)
        self.assertEqual(len({id(one) for one in lists}), len(lane) + 1)
        self.assertEqual(len(lists), len(lane) + 1)
        for stand in lane:
            self.assertEqual((type(stand), *[type(part) for part in stand]), (tuple, int, list, tuple))
            for frame in stand[1]:
                self.assertEqual((type(frame), *[type(part) for part in frame]), (tuple, int, int, tuple))
                self.assert_forms(frame[2])
            wanted = {"go": "e", "test": "ee", "tell": "e", "take": "e", "hold": "nne", "leave": ""}[stand[2][0]]
            self.assertEqual(len(wanted), len(stand[2]) - 1)
            for part, kind in zip(stand[2][1:], wanted):
                self.assertIs(type(part), tuple if kind == "e" else int)
                if kind == "e":
                    self.assertEqual([type(one) for one in part], [int, tuple, int])
                    self.assert_forms(part[1])

    def assert_forms(self, forms):
        for form in forms:
            self.assertEqual((type(form), *[type(part) for part in form]), (tuple, int, tuple))
            for pair in form[1]:
                self.assertEqual((type(pair), *[type(n) for n in pair]), (tuple, int, int))

    def assert_no_text(self, text):
        for time in range(2):
            with self.assertRaises(NoText, msg=repr(text[:300])):
                read_lane(text)

    def assert_as_written(self, text):
        """Reads a text just where it is written as a lane is."""
        if LANE.fullmatch(text):
            lane = read_lane(text)
            self.assert_kinds(lane)
            self.assertEqual(shown_lane(lane), text)
            return True
        self.assert_no_text(text)
        return False


class Shown(BookCase):
    def test_each_deed(self):
        self.assertEqual({stand[2][0] for stand in BASE}, {"go", "test", "tell", "take", "hold", "leave"})
        self.assert_shown(BASE, BASE_TEXT)
        self.assertTrue(LANE.fullmatch(BASE_TEXT))
        for k, text in enumerate(("\n" + BASE_TEXT).split("\nstand ")[1:]):
            self.assert_shown([BASE[k]], "stand " + text)

    def test_the_form_of_the_document(self):
        form = (3, ((1, 0), (-2, 4)))
        self.assert_shown([(5, [(0, 1, (form, num(0)))], LEAVE)], "stand 5\nframe 0 1 3;1:0;-2:4 0\nleave")

    def test_no_frames_no_forms_no_moves(self):
        self.assert_shown([(0, [], LEAVE)], "stand 0\nleave")
        self.assert_shown([(0, [(0, 0, ())], LEAVE)], "stand 0\nframe 0 0\nleave")
        self.assert_shown([(0, [], ("go", (1, (), 2)))], "stand 0\ngo\nedge 1 2")
        self.assert_shown([(0, [], LEAVE)] * 3, "stand 0\nleave\nstand 0\nleave\nstand 0\nleave")

    def test_rows_ahead_of_the_stand_in_an_edge(self):
        self.assert_shown([(1, [], ("test", (11, (A,), 22), (33, (B, C), 44)))],
                          "stand 1\ntest\nedge 11 22 0;1:0\nedge 33 44 0;1:1 0;1:2")
        self.assert_shown([(1, [], ("hold", 7, -8, (9, (), 10)))], "stand 1\nhold 7 -8\nedge 9 10")

    def test_lanes_with_a_fault(self):
        lane = [(-3, [(99, -1, (A, (0, ((0, 5), (2, 1), (2, 1), (-1, -1)))))] * 6, ("go", (-5, (num(-1),) * 9, -7)))]
        text = "stand -3" + "\nframe 99 -1 0;1:0 0;0:5;2:1;2:1;-1:-1" * 6 + "\ngo\nedge -5 -7" + " -1" * 9
        self.assert_shown(lane, text)
        self.assertEqual(fault(MAIN, lane), (0, "paper"))
        self.assert_shown(lane * 101, "\n".join([text] * 101))

    def test_numbers_of_three_hundred_figures(self):
        for n in (GREATEST, -GREATEST, 10 ** 299, -(10 ** 299), 10 ** 299 - 1):
            lane = [(n, [(n, n, (num(n), (n, ((n, n), (n, n)))))], ("hold", n, n, (n, (num(n), (n, ((n, n),))), n)))]
            s = str(n)
            self.assert_shown(lane, f"stand {s}\nframe {s} {s} {s} {s};{s}:{s};{s}:{s}\nhold {s} {s}\n"
                                    f"edge {s} {s} {s} {s};{s}:{s}")

    def test_grown_lanes(self):
        rng = random.Random(61)
        for time in range(300):
            lane = Grower(rng, random_program(rng), rng.choice([2, 12, 30])).lane()
            text = shown_lane(lane)
            self.assertTrue(LANE.fullmatch(text))
            self.assert_read(text, lane)

    def test_any_lanes(self):
        rng = random.Random(62)
        number = lambda: rng.choice([0, 1, -1, 2, 40, 41, -10, 100, GREATEST, -GREATEST])
        form = lambda: (number(), tuple((number(), number()) for k in range(rng.choice([0, 0, 1, 2, 3]))))
        forms = lambda: tuple(form() for k in range(rng.choice([0, 1, 1, 2, 3, 9])))
        edge = lambda: (number(), forms(), number())
        deeds = (lambda: LEAVE, lambda: ("go", edge()), lambda: ("test", edge(), edge()), lambda: ("tell", edge()),
                 lambda: ("take", edge()), lambda: ("hold", number(), number(), edge()))
        for time in range(500):
            lane = []
            for k in range(rng.randint(1, 5)):
                paper = [(number(), number(), forms()) for frame in range(rng.choice([0, 1, 1, 2, 5]))]
                lane.append((number(), paper, rng.choice(deeds)()))
            text = shown_lane(lane)
            self.assertTrue(LANE.fullmatch(text))
            self.assert_read(text, lane)


class Read(BookCase):
    def test_forms_that_are_none(self):
        forms = ((0, ((1, 1), (1, 0))), (5, ((0, 0),)), (0, ((3, 1), (3, 1))), (-1, ((1, -4),)))
        self.assert_read("stand 2\nframe 0 0 0;1:1;1:0 5;0:0 0;3:1;3:1 -1;1:-4\nleave", [(2, [(0, 0, forms)], LEAVE)])
        self.assert_read("stand 2\ngo\nedge 1 0 0;0:0;0:0", [(2, [], ("go", (1, ((0, ((0, 0), (0, 0))),), 0)))])

    def test_what_is_read_may_have_a_fault(self):
        lane = read_lane("stand 41\nframe 9 9 0\ngo\nedge 201 100")
        self.assertEqual(lane, [(41, [(9, 9, (num(0),))], ("go", (201, (), 100)))])
        self.assertEqual(fault(MAIN, lane), (0, "paper"))

    def test_one_figure_too_many(self):
        parts = ("stand {}\nleave", "stand 0\nframe {} 0\nleave", "stand 0\nframe 0 {}\nleave",
                 "stand 0\nframe 0 0 {}\nleave", "stand 0\nframe 0 0 0;{}:0\nleave", "stand 0\nframe 0 0 0;0:{}\nleave",
                 "stand 0\nhold {} 0\nedge 0 0", "stand 0\nhold 0 {}\nedge 0 0", "stand 0\ngo\nedge {} 0",
                 "stand 0\ngo\nedge 0 {}", "stand 0\ngo\nedge 0 0 {}", "stand 0\ngo\nedge 0 0 0;{}:0",
                 "stand 0\ngo\nedge 0 0 0;0:{}", "stand 0\ntest\nedge 0 0\nedge {} 0")
        for part in parts:
            for n in ("0", "7", "-7", "9" * 300, "-" + "9" * 300, "1" + "0" * 299):
                self.assertTrue(self.assert_as_written(part.replace("{}", n)))
            for n in ("9" * 301, "-" + "9" * 301, "1" + "0" * 300, "0" * 300, "9" * 1000, "01", "00", "-0", "-01", "+1",
                      "--1", "1-", "1_0", "1.0", "0x1", "a", "", "-", " 1", "1 ", "1\t", "1;", ";1", ":", "1 \n"):
                self.assertFalse(self.assert_as_written(part.replace("{}", n)))

    def test_refused(self):
        texts = (
            "", "\n", " ", "stand", "stand 0", "stand 0\n", "stand 0\nleave\n", "\nstand 0\nleave", " stand 0\nleave",
            "stand 0\nleave ", "stand 0 \nleave", "stand  0\nleave", "stand 0\n leave", "stand 0\n\nleave",
            "stand 0\r\nleave", "stand\n0\nleave", "stand 0 0\nleave", "stand 0\nleave 0", "Stand 0\nleave",
            "stand 0\nLeave", "stand 0\nstay", "stand 0\nleave\nleave", "stand 0\nleave\nstand 0",
            "stand 0\nstand 0\nleave", "leave", "leave\nstand 0\nleave", "leave\nstand 0", "frame 0 0\nleave",
            "frame 0 0\nstand 0\nleave", "edge 0 0", "go\nedge 0 0", "stand 0\nframe 0 0", "stand 0\nframe 0\nleave",
            "stand 0\nframe\nleave", "stand 0\nleave\nframe 0 0", "stand 0\ngo\nframe 0 0\nedge 0 0",
            "stand 0\ngo\nedge 0 0\nframe 0 0", "stand 0\nedge 0 0", "stand 0\nedge 0 0\ngo",
            "stand 0\nleave\nedge 0 0",
            "stand 0\ngo", "stand 0\ngo\nedge 0", "stand 0\ngo\nedge", "stand 0\ngo\nedge 0 0\nedge 0 0",
            "stand 0\ngo 0\nedge 0 0", "stand 0\ntell", "stand 0\ntell\nedge 0 0\nedge 0 0", "stand 0\ntake",
            "stand 0\ntake\nedge 0 0\nedge 0 0", "stand 0\ntest", "stand 0\ntest\nedge 0 0",
            "stand 0\ntest\nedge 0 0\nedge 0 0\nedge 0 0", "stand 0\ntest\nedge 0 0\nstand 0\nedge 0 0",
            "stand 0\nhold\nedge 0 0", "stand 0\nhold 0\nedge 0 0", "stand 0\nhold 0 0 0\nedge 0 0",
            "stand 0\nhold 0 0",
            "stand 0\nhold 0 0\nedge 0 0\nedge 0 0", "stand 0\ngo\nleave\nedge 0 0", "stand 0\nleave\ngo\nedge 0 0",
            "stand 0\ngo\nedge 0 0\nleave", "stand 0\ngo\nstand 0\nleave", "stand 0\ndef 0 1\nleave", "def 0 1\nback 0",
            "stand 0\ngo\nedge 0 0 0;1", "stand 0\ngo\nedge 0 0 0;1:", "stand 0\ngo\nedge 0 0 0;:1",
            "stand 0\ngo\nedge 0 0 0;1:1:1", "stand 0\ngo\nedge 0 0 1:1", "stand 0\ngo\nedge 0 0 ;1:1",
            "stand 0\ngo\nedge 0 0 0;;1:1", "stand 0\ngo\nedge 0 0 0;1:1;", "stand 0\ngo\nedge 0 0 0; 1:1",
            "stand 0\ngo\nedge 0 0 0,1:1", "stand 0;1:0\nleave", "stand 0\nframe 0;1:0 0\nleave",
            "stand 0\ngo\nedge 0 0;1:0", "stand 0\nhold 0 0;1:0\nedge 0 0", "stand 0\nleave\n\nstand 0\nleave",
            "stand 0\nleave stand 0\nleave", "stand 0\nleave\nstand 0\ngo\nstand 0\nleave\nedge 0 0", "number", "edge",
            "stand 0\nedge", "stand 0\nnumber", "stand 0\nframe 0 0 \nleave", "stand 0\ngo\nedge 0 0 ",
        )
        for text in texts:
            self.assertIsNone(LANE.fullmatch(text), text)
            self.assert_no_text(text)

    def test_each_sign_otherwise(self):
        short = "stand 2\nframe 0 4 0;1:0 10;-2:1\nhold 1 -3\nedge 2 0 0;1:0\nstand 0\ntest\nedge 0 4\nedge 1 0 7"
        read = 0
        for text in (short, "stand 0\nleave", "stand 1\nframe 0 0 0;1:0\ntake\nedge 0 0 0;1:1"):
            for at in range(len(text) + 1):
                for sign in SIGNS:
                    read += self.assert_as_written(text[:at] + sign + text[at:])
                    read += self.assert_as_written(text[:at] + sign + text[at + 1:])
                self.assert_as_written(text[:at] + text[at + 1:])
        self.assertGreater(read, 500)

    def test_many_signs_otherwise(self):
        rng = random.Random(63)
        lines = BASE_TEXT.split("\n")
        read = 0
        for time in range(4000):
            text = BASE_TEXT
            for change in range(rng.choice([1, 1, 2, 3])):
                at = rng.randrange(len(text) + 1)
                to = min(len(text), at + rng.choice([0, 1, 1, 2, 9]))
                new = rng.choice(["", " ", "\n", "-", ";", ":", "0", "7", "1:0", ";1:1", rng.choice(SIGNS),
                                  "\n" + rng.choice(lines), "\n" + rng.choice(lines) + "\n"])
                text = text[:at] + new + text[to:]
            read += self.assert_as_written(text)
        self.assertGreater(read, 150)

    def test_lines_otherwise(self):
        rng = random.Random(64)
        lines = BASE_TEXT.split("\n")
        read = 0
        for time in range(4000):
            changed = lines[:rng.randint(1, len(lines))]
            for change in range(rng.choice([0, 1, 1, 2])):
                at = rng.randrange(len(changed))
                way = rng.randrange(4)
                if way == 0:
                    changed.insert(at, rng.choice(lines))
                elif way == 1 and len(changed) > 1:
                    changed.pop(at)
                elif way == 2:
                    changed[at] = rng.choice(lines)
                else:
                    other = rng.randrange(len(changed))
                    changed[at], changed[other] = changed[other], changed[at]
            read += self.assert_as_written("\n".join(changed))
        self.assertGreater(read, 300)

    def test_long_texts(self):
        stands = ["stand 0\nleave"] * (MILLION // 14)
        text = "\n".join(stands)
        self.assertEqual(read_lane(text), [(0, [], LEAVE)] * len(stands))
        self.assert_no_text(text + "\n")
        self.assert_no_text(text + "\nstand 0")
        many = MILLION // 6 - 20
        text = "stand 1\nframe 0 0" + " 0;1:0" * many + "\nleave"
        self.assertEqual(read_lane(text), [(1, [(0, 0, (A,) * many)], LEAVE)])
        self.assert_no_text(text[:-5] + "lea")
        many = MILLION // 4 - 20
        text = "stand 1\ngo\nedge 0 0 0" + ";1:0" * many
        self.assertEqual(read_lane(text), [(1, [], ("go", (0, ((0, ((1, 0),) * many),), 0)))])
        self.assert_no_text(text + ";")
        self.assert_no_text("stand 1" + "\nframe 0 0" * (MILLION // 10 - 9))
        self.assert_no_text("\n" * MILLION)
        self.assert_no_text("stand 0" + "\n" * (MILLION - 9))
        self.assert_no_text("stand 0\nleave" + " " * (MILLION - 20))
        self.assert_no_text("stand 0\ngo" + "\nedge 0 0" * (MILLION // 9 - 9))

    def test_the_refusal(self):
        with self.assertRaises(LaneError) as raised:
            read_lane("")
        self.assertIs(type(raised.exception), NoText)


class Answers(BookCase):
    def assert_answer(self, program, lane, inputs, most, when, text):
        before = copy.deepcopy((inputs, when))
        self.assertEqual(answer(shown(program), shown_lane(lane), inputs, most, when), text)
        self.assertEqual((inputs, when), before)

    def test_the_answer_of_the_document(self):
        program = [(0, 1, [("put", 0, 5), ("tell", 0), ("put", 0, -3), ("tell", 0), ("put", 0, 7), ("back", 0)])]
        for when in ([], [True], [True, True]):
            self.assert_answer(program, made(program, 0, 0, [], 20), [], 100, when, "5 -3 / back 7")

    def test_news_of_none_one_and_many(self):
        program = [(0, 1, [("take", 0), ("zero", 0, 4), ("tell", 0), ("jump", 0), ("back", 0)])]
        lane = made(program, 0, 0, [], 20)
        for when in ([], [True], [False, True], [True, True, True]):
            self.assert_answer(program, lane, [0], 400, when, "/ back 0")
            self.assert_answer(program, lane, [-12, 0], 400, when, "-12 / back 0")
            numbers = list(range(-40, 0)) + list(range(1, 40))
            told = " ".join(str(n) for n in numbers)
            self.assert_answer(program, lane, numbers + [0], 400, when, told + " / back 0")

    def test_each_end(self):
        for when in ([], [True], [False, True], [True, False, True]):
            self.assert_answer(MAIN, BASE, [3, 0], 100, when, "5 10 / back 10")
            self.assert_answer(MAIN, BASE, [3], 100, when, "5 / dry 0 2")
            self.assert_answer(MAIN, BASE, [], 100, when, "/ dry 0 2")
            self.assert_answer(MAIN, BASE, [3, 0], 7, when, "5 / far 1 1")
            self.assert_answer(MAIN, BASE, [3, 0], 0, when, "/ far 0 0")
            nest = [(0, 1, [("call", 0, 0, ()), ("back", 0)])]
            self.assert_answer(nest, [(1, [(0, 1, (A,))], LEAVE)], [], 100, when, "/ deep 0 0")
            self.assert_answer(nest, made(nest, 0, 0, [], 20), [], 100, when, "/ deep 0 0")

    def test_long_numbers(self):
        program = [(0, 1, [("take", 0)] + [("times", 0, 0, 99)] * 27 + [("tell", 0), ("jump", 1)])]
        lane = made(program, 0, 0, [], 20)
        n = 10 ** 60 - 1
        for sign in (1, -1):
            told = " ".join(str(sign * n * 99 ** (27 * k)) for k in range(1, 14))
            for when in ([], [True], [True, False, True, True]):
                self.assertEqual(answer(shown(program), shown_lane(lane), [sign * n], 400, when), told + " / far 0 23")

    def test_against_the_plain_run(self):
        rng = random.Random(65)
        for time in range(400):
            program = random_program(rng)
            f = rng.randrange(len(program))
            known = [(p, rng.randint(-2, 2)) for p in range(program[f][1]) if rng.random() < 0.3]
            lane = made(program, f, rng.randrange(len(program[f][2])), known, rng.randint(1, 30))
            inputs = [rng.randint(-3, 3) for k in range(rng.choice([0, 3, 20]))]
            most = rng.choice([0, 9, 100, 400])
            end, news, gone = run(program, inputs, most)
            text = " ".join([str(n) for n in news] + ["/"] + [str(part) for part in end])
            for when in ([], [True], [rng.random() < 0.5 for k in range(60)]):
                self.assert_answer(program, lane, inputs, most, when, text)


class Refusals(BookCase):
    def assert_refused(self, kind, text, lane_text):
        for most, when in ((100, []), (0, [True])):
            with self.assertRaises(LaneError) as raised:
                answer(text, lane_text, [3, 0], most, when)
            self.assertIs(type(raised.exception), kind)
        return raised.exception

    def test_the_programs_text(self):
        for text in ("", MAIN_TEXT + "\n", "def 0 1\nback", "stand 0\nleave", "def 0 9\nput 0 -0\ntell 0"):
            for lane_text in (BASE_TEXT, "", "stand 0\nleave"):
                self.assert_refused(NoText, text, lane_text)

    def test_a_program_that_is_not_formed(self):
        for text in ("def 0 1", "def 0 9\nback 0", "def 1 1\nback 0", "def 0 1\ntell 0", "def 0 1\nback 1",
                     "\n".join(["def 0 1\nback 0"] * 7), "def 0 1\njump 1", "def 0 1\ncall 0 0 0\nback 0"):
            for lane_text in (BASE_TEXT, "", "stand 0\nleave", "stand 1\nframe 0 0 0;1:0\nleave"):
                self.assert_refused(NotFormed, text, lane_text)

    def test_the_lanes_text(self):
        for lane_text in ("", BASE_TEXT + "\n", "stand 0\ngo", MAIN_TEXT, "stand 0\nframe 9 9\nhold 0\nedge 0 0"):
            self.assert_refused(NoText, MAIN_TEXT, lane_text)

    def assert_faulty(self, program, lane, k, word):
        refused = self.assert_refused(Faulty, shown(program), shown_lane(lane))
        self.assertEqual((refused.k, refused.word), (k, word))
        self.assertEqual((type(refused.k), type(refused.word)), (int, str))

    def test_faults(self):
        self.assert_faulty(MAIN, [(0, [], LEAVE)], 0, "paper")
        self.assert_faulty(MAIN, BASE[:4] + [(2, [(0, 8, (A, num(5), B))], LEAVE)] + BASE[5:], 3, "edge")
        self.assert_faulty(MAIN, BASE[:7], 5, "edge")
        self.assert_faulty(MAIN, BASE[:2] + [BASE[2][:2] + (("take", (0, (A, C), 2)),)] + BASE[3:], 2, "deed")
        self.assert_faulty(MAIN, BASE + [(2, [(0, 5, (A, num(5), (0, ((0, 1),))))], LEAVE)], 8, "paper")
        self.assert_faulty(LOOP, [(1, [(0, 0, (A,))], ("go", (1, (A,), 1))), (1, [(0, 0, (A,))], ("go", (0, (A,), 1)))],
                           1, "round")
        self.assert_faulty(LOOP, [(1, [(0, 0, (A,))], LEAVE)] * 101, 0, "paper")
        self.assert_faulty(LOOP, [(1, [(0, 0, (A,))], ("go", (201, (A,), 0)))], 0, "edge")

    def test_faults_of_any_lanes(self):
        rng = random.Random(66)
        seen = {}
        for time in range(400):
            program = random_program(rng)
            lane = Grower(rng, program, 12).lane()
            k = rng.randrange(len(lane))
            lane[k] = rng.choice([(lane[k][0] + 1, *lane[k][1:]), (*lane[k][:2], ("tell", (0, (), 0))), lane[-1]])
            found = fault(program, lane)
            if found is not None:
                seen[found[1]] = seen.get(found[1], 0) + 1
                self.assert_faulty(program, lane, *found)
        self.assertLessEqual({"edge", "deed"}, set(seen))


if __name__ == "__main__":
    unittest.main()

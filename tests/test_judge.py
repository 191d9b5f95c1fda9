"""Points 2, 15 to 17 and 19 to 21: lanes and their faults."""

import copy
import unittest

from midlanes.judge import fault
from midlanes.papers import silent
from midlanes.rows import formed

from helpers import BASE, LEAVE, LOOP, MAIN, num, word, words

HUGE = 10 ** 300 - 1
BEYOND = (-1, -2, -HUGE, HUGE)
A, B, C = words(3)


def loop_stand(rows, k, many=1):
    return (many, [(0, 0, (A,))], ("go", (rows, words(many), k)))


# Things that are no forms of two words, whatever they stand in.
NO_FORMS = (
    (0, ((1, 2),)), (0, ((1, HUGE),)), (0, ((1, -1),)), (0, ((1, -2),)), (0, ((0, 0),)), (3, ((0, 1),)),
    (0, ((1, 0), (1, 0))), (0, ((1, 1), (1, 0))), (0, ((1, 0), (1, 1), (1, 2))), (0, ((1, 0), (0, 1))),
    (0, ((2, 0), (-2, 0))), (0, tuple((1, w) for w in range(400))), (0, ((1, 1),) * 400),
)
TWO_WORD_FORMS = (num(0), num(-7), num(HUGE), A, B, (0, ((1, 0), (1, 1))), (-HUGE, ((HUGE, 0), (-HUGE, 1))))


class JudgeCase(unittest.TestCase):
    def assert_fault(self, program, lane, expected):
        self.assertTrue(formed(program))
        before = copy.deepcopy((program, lane))
        told = fault(program, lane)
        self.assertEqual(told, expected, f"{lane!r:.2000}")
        if expected is not None:
            self.assertIs(type(told), tuple)
            self.assertEqual([type(part) for part in told], [int, str])
        self.assertEqual((program, lane), before)

    def with_stand(self, k, stand):
        return BASE[:k] + [stand] + BASE[k + 1:]

    def with_deed(self, k, deed):
        return self.with_stand(k, BASE[k][:2] + (deed,))


class NoFault(JudgeCase):
    def test_each_deed(self):
        self.assertEqual({stand[2][0] for stand in BASE}, {"go", "test", "tell", "take", "hold", "leave"})
        self.assert_fault(MAIN, BASE, None)
        self.assert_fault(MAIN, list(BASE), None)

    def test_one_stand(self):
        for f, (takes, boxes, rows) in enumerate(MAIN):
            for at in range(len(rows)):
                self.assert_fault(MAIN, [(boxes, [(f, at, words(boxes))], LEAVE)], None)

    def test_the_lane_is_judged_anew(self):
        lane = list(BASE)
        self.assert_fault(MAIN, lane, None)
        lane[4] = (2, [(0, 6, (A, num(5), B))], LEAVE)
        self.assert_fault(MAIN, lane, (3, "edge"))
        lane[4] = BASE[4]
        self.assert_fault(MAIN, lane, None)
        lane.pop()
        self.assert_fault(MAIN, lane, (5, "edge"))

    def test_the_program_counts(self):
        program = copy.deepcopy(MAIN)
        self.assert_fault(program, BASE, None)
        program[0][2][0] = ("put", 1, 6)
        self.assert_fault(program, BASE, (0, "edge"))
        program[0][2][0] = ("put", 1, 5)
        program[1][2][3] = ("times", 0, 0, -2)
        self.assert_fault(program, BASE, (6, "edge"))
        program[1][2][3] = ("times", 0, 0, -1)
        program[0][2][3] = ("take", 0)
        self.assert_fault(program, BASE, (2, "deed"))
        program[0][2][5] = ("call", 1, 0, ())
        self.assert_fault(program, BASE, (2, "deed"))
        program[0][2][3] = ("tell", 0)
        self.assert_fault(program, BASE, (6, "paper"))

    def test_a_test_of_a_plain_form(self):
        program = [(0, 1, [("zero", 0, 2), ("jump", 0), ("below", 0, 0), ("back", 0)])]
        for n in (0, 1, -1):
            lane = [(0, [(0, 0, (num(n),))], ("test", (0, (), 1), (1, (), 0))),
                    (0, [(0, 2, (num(n),))], ("test", (0, (), 0), (0, (), 2))),
                    (0, [(0, 3, (num(n),))], LEAVE)]
            self.assert_fault(program, lane, None)


class Lengths(JudgeCase):
    def test_no_stands(self):
        self.assert_fault(MAIN, [], (0, "paper"))
        self.assert_fault(LOOP, [], (0, "paper"))

    def test_a_hundred_and_one_more(self):
        for many in (1, 2, 99, 100):
            self.assert_fault(LOOP, [(1, [(0, 0, (A,))], LEAVE)] * many, None)
            self.assert_fault(LOOP, [loop_stand(1, many - 1)] * many, None)
        for many in (101, 102, 200, 400):
            self.assert_fault(LOOP, [(1, [(0, 0, (A,))], LEAVE)] * many, (0, "paper"))
            self.assert_fault(LOOP, [loop_stand(1, 0)] * many, (0, "paper"))
            self.assert_fault(LOOP, [loop_stand(0, 0)] * many, (0, "paper"))

    def test_the_last_of_a_hundred(self):
        lane = [loop_stand(1, (k + 1) % 100) for k in range(100)]
        self.assert_fault(LOOP, lane, None)
        self.assert_fault(LOOP, lane[:99] + [loop_stand(1, 100)], (99, "edge"))
        self.assert_fault(LOOP, lane[:99] + [(1, [(0, 0, (A,))], ("stay",))], (99, "deed"))
        self.assert_fault(LOOP, lane[:98] + [loop_stand(1, 0)] + [(1, [(0, 1, (A,))], LEAVE)], (99, "paper"))
        self.assert_fault(LOOP, lane[:99] + [(1, [(0, 1, (A,))], LEAVE)], (98, "edge"))


class Papers(JudgeCase):
    # Defs that look alike but for their numbers: a paper that is wrong in its number alone is found out.
    TWINS = [(0, 1, [("call", 0, 1, ()), ("call", 0, 2, ()), ("back", 0)])] * 3
    NEST = [(0, 2, [("call", 0, 0, ()), ("tell", 1), ("back", 0)])]

    def assert_paper(self, program, many, paper, fits):
        """Told of a stand by itself, of the last of several, and of one to which an edge leads."""
        stand = (many, paper, LEAVE)
        right = (0, [(0, 0, (num(0),) * program[0][1])], LEAVE)
        self.assert_fault(program, [stand], None if fits else (0, "paper"))
        self.assert_fault(program, [right, right, stand, right], None if fits else (2, "paper"))

    def test_many(self):
        for many in range(41):
            self.assert_paper(LOOP, many, [(0, 0, (num(4),))], True)
        for many in (41, 42, 100, 400) + BEYOND:
            self.assert_paper(LOOP, many, [(0, 0, (num(4),))], False)
            self.assert_paper(LOOP, many, [(0, 0, (A,))], False)

    def test_how_many_sign_frames(self):
        frame = (0, 0, (A, B))
        for many in range(1, 5):
            self.assert_paper(self.NEST, 2, [frame] * many, True)
            self.assert_paper(self.NEST, 2, [frame] * (many - 1) + [(0, 2, (A, B))], True)
        for many in (0, 5, 6, 400):
            self.assert_paper(self.NEST, 2, [frame] * many, False)

    def test_numbers_of_defs(self):
        for f in (0, 1, 2):
            self.assert_paper(self.TWINS, 1, [(f, 2, (A,))], True)
            self.assert_paper(self.TWINS, 1, [(0, 0, (A,)), (1, 1, (A,)), (2, 0, (A,))], True)
        for f in (3, 4, -3) + BEYOND:
            self.assert_paper(self.TWINS, 1, [(f, 2, (A,))], False)
            self.assert_paper(self.TWINS, 1, [(f, 0, (A,)), (1, 2, (A,))], False)
            self.assert_paper(self.TWINS, 1, [(0, 0, (A,)), (f, 1, (A,)), (2, 2, (A,))], False)
            self.assert_paper(self.TWINS, 1, [(0, 1, (A,)), (f, 2, (A,))], False)

    def test_numbers_of_rows(self):
        for at in range(3):
            self.assert_paper(self.NEST, 2, [(0, at, (A, B))], True)
            self.assert_paper(self.NEST, 2, [(0, 0, (A, B)), (0, at, (A, B))], True)
        for at in (3, 4, -3) + BEYOND:
            self.assert_paper(self.NEST, 2, [(0, at, (A, B))], False)
            self.assert_paper(self.NEST, 2, [(0, 0, (A, B)), (0, at, (A, B))], False)
            self.assert_paper(self.NEST, 2, [(0, at, (A, B)), (0, 0, (A, B))], False)
        # As many rows as the other def has would not do.
        program = [(0, 1, [("back", 0)]), (0, 1, [("tell", 0), ("back", 0)])]
        self.assert_paper(program, 1, [(1, 1, (A,))], True)
        self.assert_paper(program, 1, [(0, 1, (A,))], False)

    def test_how_many_forms(self):
        for many in range(1, 9):
            program = [(0, many, [("call", 0, 0, ()), ("back", 0)])]
            for length in (0, 1, 2, 3, 4, 5, 6, 7, 8, 9, 10, 400):
                forms = (A,) * length
                self.assert_paper(program, 1, [(0, 0, forms)], length == many)
                self.assert_paper(program, 1, [(0, 0, forms), (0, 1, (A,) * many)], length == many)
                self.assert_paper(program, 1, [(0, 0, (A,) * many), (0, 1, forms)], length == many)

    def test_forms_are_of_the_own_defs_boxes(self):
        program = [(0, 3, [("call", 0, 1, (1,)), ("back", 0)]), (1, 2, [("back", 0)])]
        self.assert_paper(program, 3, [(0, 0, (A, B, C)), (1, 0, (A, B))], True)
        self.assert_paper(program, 3, [(0, 0, (A, B)), (1, 0, (A, B, C))], False)

    def test_forms_of_so_many_words(self):
        for many in range(41):
            for w in {0, many - 1, many, many + 1, 39, 40, 41, HUGE} - {-1}:
                self.assert_paper(LOOP, many, [(0, 0, (word(w),))], w < many)
                self.assert_paper(LOOP, many, [(0, 0, ((5, ((-3, w),)),))], w < many)
        self.assert_paper(LOOP, 40, [(0, 0, ((1, tuple((2, w) for w in range(40))),))], True)
        self.assert_paper(LOOP, 40, [(0, 0, ((1, tuple((2, w) for w in range(41))),))], False)

    def test_what_are_no_forms(self):
        for at in range(3):
            for p in range(2):
                for form in TWO_WORD_FORMS + NO_FORMS:
                    paper = [(0, 0, (A, B)) for k in range(3)]
                    forms = [A, B]
                    forms[p] = form
                    paper[at] = (0, 0, tuple(forms))
                    self.assert_paper(self.NEST, 2, paper, form in TWO_WORD_FORMS)
                    self.assert_paper(self.NEST, 2, [(0, 2, tuple(forms))], form in TWO_WORD_FORMS)

    def test_what_stands_at_calls(self):
        for at in range(3):
            for after in range(3):
                self.assert_paper(self.TWINS, 1, [(0, at, (A,)), (after, 2, (A,))], (at, after) in ((0, 1), (1, 2)))
                paper = [(0, 0, (A,)), (1, at, (A,)), (after, 0, (A,))]
                self.assert_paper(self.TWINS, 1, paper, (at, after) in ((0, 1), (1, 2)))
                paper = [(0, at, (A,)), (after, 1, (A,)), (2, 0, (A,)), (1, 2, (A,))]
                self.assert_paper(self.TWINS, 1, paper, (at, after) in ((0, 1), (1, 2)))

    def test_only_calls_wait(self):
        rows = [("put", 0, 1), ("copy", 0, 1), ("plus", 0, 1, 1), ("less", 0, 1, 1), ("times", 0, 1, 1), ("take", 0),
                ("tell", 0), ("jump", 1), ("zero", 0, 1), ("below", 0, 1), ("call", 0, 1, ()), ("back", 1)]
        program = [(0, 2, rows), (0, 2, [("back", 0)])]
        for at, row in enumerate(rows):
            self.assert_paper(program, 2, [(0, at, (A, B)), (1, 0, (A, B))], row[0] == "call")
            self.assert_paper(program, 2, [(0, at, (A, B))], True)

    def test_numbers_of_three_hundred_figures(self):
        for form in (num(HUGE), num(-HUGE), (HUGE, ((-HUGE, 0),))):
            self.assert_paper(LOOP, 1, [(0, 0, (form,))], True)


class Deeds(JudgeCase):
    PARTS = {"go": ["e"], "test": ["e", "e"], "tell": ["e"], "take": ["e"], "hold": ["n", "n", "e"], "leave": []}
    ROWS = [("put", 0, 1), ("copy", 0, 1), ("plus", 0, 1, 1), ("less", 0, 1, 1), ("times", 0, 1, 1), ("take", 0),
            ("tell", 0), ("jump", 1), ("zero", 0, 9), ("below", 0, 10), ("call", 0, 0, ()), ("back", 1)]
    PROGRAM = [(0, 2, ROWS)]

    def test_words_that_are_none(self):
        edge = (1, (A,), 0)
        for name in ("", " ", "Go", "GO", "go ", "gone", "g", "stay", "jump", "put", "zero", "call", "back", "edge",
                     "number", "leaves", "fall", "away", "over", "short"):
            for parts in ((), (edge,), (edge, edge), (0, 0, edge), (0,), (0, 0)):
                self.assert_fault(LOOP, [(1, [(0, 0, (A,))], (name,) + parts)], (0, "deed"))

    def test_not_just_its_parts_in_their_order(self):
        # At each deed's own row, with all that parts may be up to four of them.
        lists = [[]]
        for length in range(4):
            lists = lists + [parts + [kind] for parts in lists if len(parts) == length for kind in "ne"]
        self.assertEqual(len(lists), 31)
        ats = {"go": 0, "test": 1, "tell": 2, "take": 3, "hold": 0, "leave": 0}
        program = [(0, 1, [("jump", 0), ("zero", 0, 2), ("tell", 0), ("take", 0), ("back", 0)])]
        edges = {"go": (1, (A,), 0), "test": (0, (A,), 2), "tell": (0, (A,), 3), "take": (0, (B,), 4),
                 "hold": (1, (A,), 0), "leave": (1, (A,), 0)}
        stands = [(1, [(0, at, (A,))], LEAVE) for at in range(5)]
        for name, at in ats.items():
            for parts in lists:
                deed = (name,) + tuple(0 if kind == "n" else edges[name] for kind in parts)
                lane = stands[:at] + [(1, [(0, at, (A,))], deed)] + stands[at + 1:]
                self.assert_fault(program, lane, None if parts == self.PARTS[name] else (at, "deed"))
        self.assert_fault(program, [(1, [(0, 0, (A,))], ("go",) + ((1, (A,), 0),) * 399)], (0, "deed"))
        self.assert_fault(program, [(1, [(0, 0, (A,))], ("leave",) + (0,) * 399)], (0, "deed"))

    def assert_at_rows(self, deed, allowed):
        """The deed stands at the rows of these words alone; its edges lead wrong, which goes behind."""
        for at, row in enumerate(self.ROWS):
            lane = [(2, [(0, at, (A, B))], deed)]
            self.assert_fault(self.PROGRAM, lane, (0, "edge" if row[0] in allowed else "deed"))
            lane = [(2, [(0, 10, (A, B)), (0, at, (B, A))], deed)]
            self.assert_fault(self.PROGRAM, lane, (0, "edge" if row[0] in allowed else "deed"))

    def test_where_deeds_stand(self):
        wrong = (0, (A, B), 1)
        names = [row[0] for row in self.ROWS]
        self.assertEqual(len(set(names)), 12)
        self.assert_at_rows(("test", wrong, wrong), ("zero", "below"))
        self.assert_at_rows(("tell", wrong), ("tell",))
        self.assert_at_rows(("take", wrong), ("take",))
        self.assert_at_rows(("go", wrong), names)
        self.assert_at_rows(("hold", 1, 5, wrong), names)

    def test_go_hold_and_leave_stand_anywhere(self):
        for at in range(12):
            for paper in ([(0, at, (A, B))], [(0, 10, (B, A)), (0, at, (A, B))]):
                target = (2, paper, LEAVE)
                self.assert_fault(self.PROGRAM, [target], None)
                self.assert_fault(self.PROGRAM, [(2, paper, ("go", (0, (A, B), 1))), target], None)
                for w in (0, 1):
                    self.assert_fault(self.PROGRAM, [(2, paper, ("hold", w, -4, (0, (A, B), 1))), target], None)

    def test_the_row_is_the_last_sign_frames(self):
        program = [(0, 1, [("call", 0, 1, ()), ("back", 0)]),
                   (0, 1, [("tell", 0), ("take", 0), ("zero", 0, 3), ("back", 0)])]
        frame = (0, 0, (A,))
        lane = [(1, [frame, (1, 0, (A,))], ("tell", (0, (A,), 1))), (1, [frame, (1, 1, (A,))], LEAVE)]
        self.assert_fault(program, lane, None)
        self.assert_fault(program, [(1, [frame, (1, 1, (A,))], ("tell", (0, (A,), 1)))], (0, "deed"))

    def test_w_is_a_word(self):
        for many in range(0, 41):
            for w in {0, 1, many - 1, many, many + 1, 40, -1, -2, -many, HUGE, -HUGE}:
                lane = [(many, [(0, 0, (num(3),))], ("hold", w, 2, (1, words(many), 0)))]
                self.assert_fault(LOOP, lane, None if 0 <= w < many else (0, "deed"))

    def test_holds_of_any_number(self):
        for n in (0, 1, -1, HUGE, -HUGE):
            lane = [(2, [(0, 0, (B,))], ("hold", 1, n, (0, (A,), 1))), (1, [(0, 0, (num(n),))], LEAVE)]
            self.assert_fault(LOOP, lane, None)


class EdgeRows(JudgeCase):
    def test_so_many_rows(self):
        for rows in range(0, 203):
            expected = (0, "round") if rows == 0 else None if rows <= 200 else (0, "edge")
            self.assert_fault(LOOP, [loop_stand(rows, 0)], expected)
            expected = None if rows <= 200 else (0, "edge")
            self.assert_fault(LOOP, [loop_stand(rows, 1), loop_stand(1, 0)], expected)
        for rows in (400, 10 ** 60) + BEYOND:
            self.assert_fault(LOOP, [loop_stand(rows, 0)], (0, "edge"))

    def test_rows_of_each_deeds_edge(self):
        tell = [(0, 1, [("tell", 0), ("jump", 1)])]
        take = [(0, 1, [("take", 0), ("jump", 1)])]
        test = [(0, 1, [("zero", 0, 2), ("jump", 1), ("jump", 2)])]
        for rows in (0, 1, 2, 100, 199, 200, 201, 202, 400) + BEYOND:
            expected = None if 0 <= rows <= 200 else (0, "edge")
            last = (1, [(0, 1, (A,))], LEAVE)
            self.assert_fault(tell, [(1, [(0, 0, (A,))], ("tell", (rows, (A,), 1))), last], expected)
            self.assert_fault(take, [(1, [(0, 0, (A,))], ("take", (rows, (B,), 1))), last], expected)
            yes = (1, [(0, 2, (A,))], LEAVE)
            for edges in (((rows, (A,), 2), (0, (A,), 1)), ((0, (A,), 2), (rows, (A,), 1)),
                          ((rows, (A,), 2), (rows, (A,), 1))):
                self.assert_fault(test, [(1, [(0, 0, (A,))], ("test",) + edges), last, yes], expected)
            hold = (1, [(0, 0, (A,))], ("hold", 0, 5, (rows, (A,), 1)))
            self.assert_fault(LOOP, [hold, (1, [(0, 0, (A,))], LEAVE)], expected)

    def test_just_so_many_rows(self):
        program = [(0, 1, [("put", 0, 1)] * 29 + [("back", 0)])]
        for rows in range(32):
            for at in range(30):
                move = A if at == 0 else num(1)
                lane = [(1, [(0, 0, (A,))], ("go", (rows, (move,), 1))), (1, [(0, at, (A,))], LEAVE)]
                self.assert_fault(program, lane, None if rows == at else (0, "edge"))

    def test_two_hundred_rows_of_reckoning(self):
        program = [(0, 1, [("plus", 0, 0, 0), ("jump", 0)])]
        for rows in (196, 197, 198, 199, 200, 201):
            lane = [(1, [(0, 0, (A,))], ("go", (rows, ((0, ((2 ** 100, 0),)),), 0)))]
            self.assert_fault(program, lane, None if rows == 200 else (0, "edge"))
        program = [(0, 2, [("times", 0, 0, -9), ("plus", 1, 1, 0), ("jump", 0)])]
        low = sum((-9) ** k for k in range(1, 67))
        moves = ((0, ((9 ** 66, 0),)), (0, ((low, 0), (1, 1))))
        for rows in (195, 197, 198, 199, 201):
            lane = [(2, [(0, 0, (A, B))], ("go", (rows, moves, 0)))]
            self.assert_fault(program, lane, None if rows == 198 else (0, "edge"))

    def test_rows_that_are_not_silent(self):
        # Each lane would be right if the row were silent and led on, or to t.
        for row in (("tell", 0), ("take", 0), ("take", 1), ("zero", 0, 3), ("below", 0, 3), ("call", 0, 0, ())):
            program = [(0, 2, [("put", 1, 4), row, ("put", 1, 4), ("put", 1, 4), ("back", 0)])]
            for start, rows, at in ((0, 2, 2), (1, 1, 2), (1, 1, 3), (1, 2, 3), (0, 3, 3), (0, 2, 3)):
                first = (1, [(0, start, (A, num(4)))], ("go", (rows, (A,), 1)))
                self.assert_fault(program, [first, (1, [(0, at, (A, num(4)))], LEAVE)], (0, "edge"))

    def test_ways_around_rows_that_are_not_silent(self):
        program = [(0, 1, [("jump", 2), ("tell", 0), ("put", 0, 7), ("jump", 4), ("back", 0)])]
        for rows, at, expected in ((0, 0, None), (1, 2, None), (2, 3, None), (3, 4, None), (4, 4, (0, "edge"))):
            move = A if rows < 2 else num(7)
            lane = [(1, [(0, 0, (A,))], ("go", (rows, (move,), 1))), (1, [(0, at, (A,))], LEAVE)]
            self.assert_fault(program, lane, expected)

    def test_zero_and_below_with_plain_forms(self):
        program = [(0, 1, [("zero", 0, 2), ("back", 0), ("below", 0, 1), ("back", 0)])]
        for start, n, at in ((0, 0, 2), (0, 1, 1), (0, -1, 1), (2, -1, 1), (2, 0, 3), (2, 1, 3)):
            for other in range(4):
                lane = [(0, [(0, start, (num(n),))], ("go", (1, (), 1))), (0, [(0, other, (num(n),))], LEAVE)]
                self.assert_fault(program, lane, None if other == at else (0, "edge"))

    def test_calls_and_backs(self):
        program = [(0, 2, [("call", 1, 0, ()), ("back", 0)])]
        zero = (0, 0, (num(0), num(0)))
        first = (0, 0, (A, B))
        for many in (1, 2, 3, 4):
            paper = [first] + [zero] * (many - 1)
            for rows in (0, 1, 2, 3, 4):
                if many + rows <= 4:
                    lane = [(2, paper, ("go", (rows, (A, B), 1))), (2, paper + [zero] * rows, LEAVE)]
                    self.assert_fault(program, lane, None)
                else:
                    lane = [(2, paper, ("go", (rows, (A, B), 1))), (2, [first] + [zero] * 3, LEAVE)]
                    self.assert_fault(program, lane, (0, "edge"))
        back = (0, 1, (A, B))
        lane = [(2, [(0, 0, (B, A)), back], ("go", (1, (A, B), 1))), (2, [(0, 1, (B, A))], LEAVE)]
        self.assert_fault(program, lane, None)
        lane = [(2, [first, (0, 0, (B, A)), back], ("go", (1, (A, B), 1))), (2, [first, (0, 1, (B, A))], LEAVE)]
        self.assert_fault(program, lane, None)
        lane = [(2, [first, (0, 0, (B, A)), back], ("go", (2, (A, B), 1))), (2, [(0, 1, (A, B))], LEAVE)]
        self.assert_fault(program, lane, None)
        lane = [(2, [first, (0, 0, (B, A)), back], ("go", (3, (A, B), 1))), (2, [(0, 1, (A, B))], LEAVE)]
        self.assert_fault(program, lane, (0, "edge"))
        self.assert_fault(program, [(2, [back], ("go", (1, (A, B), 0)))], (0, "edge"))

    def test_a_hundred_stands_of_long_edges(self):
        program = [(0, 2, [("times", 0, 0, 3), ("plus", 1, 1, 0), ("less", 0, 1, 0), ("jump", 0)])]
        frames = [(0, 0, (A, B))]
        for row in range(200):
            frames = silent(program, frames)
        self.assertEqual(frames[0][:2], (0, 0))
        lane = [(2, [(0, 0, (A, B))], ("go", (200, frames[0][2], (k + 1) % 100))) for k in range(100)]
        self.assertLess(len(str(max(abs(a) for move in frames[0][2] for a, w in move[1]))), 300)
        self.assert_fault(program, lane, None)
        lane[99] = (2, [(0, 0, (A, B))], ("go", (196, frames[0][2], 0)))
        self.assert_fault(program, lane, (99, "edge"))


class EdgeStands(JudgeCase):
    def test_k(self):
        for many in (1, 2, 7, 100):
            for k in {0, many - 1, many, many + 1, -many, 101} | set(BEYOND):
                lane = [loop_stand(1, k)] + [loop_stand(1, 0)] * (many - 1)
                self.assert_fault(LOOP, lane, None if 0 <= k < many else (0, "edge"))

    def test_a_stand_whose_paper_is_at_fault(self):
        for many, paper in ((1, [(0, 1, (A,))]), (1, [(0, -1, (A,))]), (1, [(1, 0, (A,))]), (1, [(-1, 0, (A,))]),
                            (1, []), (1, [(0, 0, (A, A))]), (1, [(0, 0, ())]), (1, [(0, 0, (B,))]),
                            (41, [(0, 0, (A,))]), (0, [(0, 0, (A,))]), (-1, [(0, 0, (A,))]),
                            (1, [(0, 0, ((0, ((1, 0), (0, 0))),))]), (1, [(0, 0, ((0, ((-1, 0), (2, 0))),))]),
                            (1, [(0, 0, (A,)), (0, 0, (A,))])):
            moves = words(max(many, 0))[:1] * max(many, 0)
            wrong = (many, paper, LEAVE)
            self.assert_fault(LOOP, [(1, [(0, 0, (A,))], ("go", (1, moves, 1))), wrong], (0, "edge"))
            self.assert_fault(LOOP, [wrong, (1, [(0, 0, (A,))], ("go", (1, moves, 0)))], (0, "paper"))
            self.assert_fault(LOOP, [loop_stand(1, 0), wrong, loop_stand(1, 1)], (1, "paper"))
            self.assert_fault(LOOP, [(many, paper, ("go", (1, moves, 0)))], (0, "paper"))

    def test_a_stand_with_another_fault(self):
        start = loop_stand(1, 1)
        self.assert_fault(LOOP, [start, (1, [(0, 0, (A,))], ("tell", (0, (A,), 0)))], (1, "deed"))
        self.assert_fault(LOOP, [start, (1, [(0, 0, (A,))], ("go", (201, (A,), 0)))], (1, "edge"))
        self.assert_fault(LOOP, [start, (1, [(0, 0, (A,))], ("go", (0, (A,), 1)))], (1, "round"))

    def test_unlike_defs(self):
        program = [(0, 1, [("jump", 0)])] * 2
        for f in (0, 1):
            for other in (0, 1):
                lane = [(1, [(f, 0, (A,))], ("go", (1, (A,), 1))), (1, [(other, 0, (A,))], LEAVE)]
                self.assert_fault(program, lane, None if f == other else (0, "edge"))

    def test_unlike_frames_that_wait(self):
        rows = [("call", 0, 1, ()), ("call", 0, 1, ()), ("back", 0)]
        program = [(0, 1, rows), (0, 1, [("jump", 0)]), (0, 1, rows)]
        start = [(0, 0, (A,)), (1, 0, (B,))]
        for paper, like in ((start, True), ([(0, 1, (A,)), (1, 0, (B,))], False), ([(2, 0, (A,)), (1, 0, (B,))], False),
                            ([(0, 0, (B,)), (1, 0, (B,))], False), ([(0, 0, (num(0),)), (1, 0, (B,))], False),
                            ([(0, 0, (A,)), (1, 0, (A,))], False), ([(1, 0, (B,))], False), ([(0, 0, (A,))], False),
                            ([(0, 0, (B,)), (1, 0, (A,))], False)):
            for rows in (0, 1):
                lane = [(2, start, ("go", (rows, (A, B), 1))), (2, paper, LEAVE)]
                self.assert_fault(program, lane, None if like else (0, "edge"))

    def test_unlike_lengths(self):
        program = [(0, 1, [("call", 0, 0, ()), ("back", 0)])]
        frame = (0, 0, (A,))
        for many in (1, 2, 3, 4):
            for other in (1, 2, 3, 4):
                lane = [(1, [frame] * many, ("go", (0, (A,), 1))), (1, [frame] * other, LEAVE)]
                self.assert_fault(program, lane, None if many == other else (0, "edge"))


class Moves(JudgeCase):
    def test_as_many_as_the_stands_words(self):
        for many in range(41):
            for length in {0, 1, many - 1, many, many + 1, 40, 41, 400} - {-1}:
                lane = [(1, [(0, 0, (num(5),))], ("go", (1, (A,) * length, 1))), (many, [(0, 0, (num(5),))], LEAVE)]
                self.assert_fault(LOOP, lane, None if length == many else (0, "edge"))

    def test_each_a_form_of_the_words(self):
        # Word 1 of the stand that the edge leads to is in no form: any form will do for it, but it must be one.
        deeds = {"go": (LOOP, lambda edge: ("go", edge)), "hold": (LOOP, lambda edge: ("hold", 1, 8, edge)),
                 "tell": ([(0, 1, [("tell", 0), ("jump", 1)])], lambda edge: ("tell", edge)),
                 "yes": ([(0, 1, [("zero", 0, 1), ("jump", 1)])], lambda edge: ("test", edge, (0, (A, A), 1))),
                 "no": ([(0, 1, [("zero", 0, 1), ("jump", 1)])], lambda edge: ("test", (0, (A, A), 1), edge))}
        for program, deed in deeds.values():
            at = 0 if program == LOOP else 1
            for form in TWO_WORD_FORMS + NO_FORMS:
                lane = [(2, [(0, 0, (A,))], deed((1, (A, form), 1))), (2, [(0, at, (A,))], LEAVE)]
                self.assert_fault(program, lane, None if form in TWO_WORD_FORMS else (0, "edge"))
                lane = [(2, [(0, 0, (A,))], deed((1, (form, A), 1))), (2, [(0, at, (B,))], LEAVE)]
                self.assert_fault(program, lane, None if form in TWO_WORD_FORMS else (0, "edge"))

    def test_behind_a_take_there_is_one_word_more(self):
        program = [(0, 2, [("take", 1), ("jump", 1)])]
        for form in TWO_WORD_FORMS + NO_FORMS:
            lane = [(1, [(0, 0, (A, num(0)))], ("take", (0, (A, B, form), 1))), (3, [(0, 1, (A, B))], LEAVE)]
            self.assert_fault(program, lane, None if form in TWO_WORD_FORMS else (0, "edge"))
        for many in (0, 1, 39, 40):
            for w in {0, many - 1, many, many + 1, 41, HUGE} - {-1}:
                first = (many, [(0, 0, (num(3), num(2)))], ("take", (0, (word(many), word(w)), 1)))
                lane = [first, (2, [(0, 1, (num(3), A))], LEAVE)]
                self.assert_fault(program, lane, None if w <= many else (0, "edge"))

    def test_what_a_take_puts_into_its_box(self):
        program = [(0, 3, [("take", 1), ("plus", 2, 1, 1), ("back", 0)])]
        first = [(0, 0, (A, B, A))]
        for moves in ((A, C, A), (A, B, A), (C, B, A), (A, C, B), (A, B, C), (A, num(0), A), (A, (0, ((2, 2),)), A)):
            lane = [(2, first, ("take", (0, moves, 1))), (3, [(0, 1, (A, B, C))], LEAVE)]
            self.assert_fault(program, lane, None if moves == (A, C, A) else (0, "edge"))
        for moves in ((A, C, (0, ((2, 2),))), (A, C, A), (A, B, (0, ((2, 1),))), (A, C, C)):
            lane = [(2, first, ("take", (1, moves, 1))), (3, [(0, 2, (A, B, C))], LEAVE)]
            self.assert_fault(program, lane, None if moves == (A, C, (0, ((2, 2),))) else (0, "edge"))
        # The word more stands behind all the others, those in no form too.
        for w in range(6):
            lane = [(4, first, ("take", (0, (A, word(w)), 1))), (2, [(0, 1, (A, B, A))], LEAVE)]
            self.assert_fault(program, lane, None if w == 4 else (0, "edge"))

    def test_a_take_in_a_called_def(self):
        program = [(0, 1, [("call", 0, 1, (0,)), ("back", 0)]), (1, 2, [("take", 0), ("back", 0)])]
        start = [(0, 0, (A,)), (1, 0, (A, A))]
        lane = [(1, start, ("take", (0, (A, B), 1))), (2, [(0, 0, (A,)), (1, 1, (B, A))], LEAVE)]
        self.assert_fault(program, lane, None)
        lane = [(1, start, ("take", (0, (A, B), 1))), (2, [(0, 0, (B,)), (1, 1, (A, A))], LEAVE)]
        self.assert_fault(program, lane, (0, "edge"))
        lane = [(1, start, ("take", (1, (A, B), 1))), (2, [(0, 1, (B,))], LEAVE)]
        self.assert_fault(program, lane, None)

    def test_a_tell_changes_nothing(self):
        program = [(0, 2, [("tell", 1), ("tell", 0), ("jump", 0)])]
        for at, moves, like in ((1, (A, B), True), (0, (A, B), False), (2, (A, B), False), (1, (B, A), False),
                                (1, (A, num(0)), False), (1, (A, A), False)):
            lane = [(2, [(0, 0, (A, B))], ("tell", (0, moves, 1))), (2, [(0, at, (A, B))], LEAVE)]
            self.assert_fault(program, lane, None if like else (0, "edge"))

    def test_yes_goes_on_at_t_and_no_at_the_next_row(self):
        for name in ("zero", "below"):
            program = [(0, 2, [("put", 0, 0), (name, 1, 3), ("put", 0, 6), ("put", 0, 7), ("back", 0)])]
            target = [(2, [(0, at, (A, B))], LEAVE) for at in range(5)]
            for yes in range(5):
                for no in range(5):
                    lane = target + [(2, [(0, 1, (A, B))], ("test", (0, (A, B), yes), (0, (A, B), no)))]
                    self.assert_fault(program, lane, None if (yes, no) == (3, 2) else (5, "edge"))
            lane = target + [(2, [(0, 1, (A, B))], ("test", (1, (num(7), B), 4), (2, (num(7), B), 4)))]
            self.assert_fault(program, lane, None)
            lane = target + [(2, [(0, 1, (A, B))], ("test", (1, (num(7), B), 4), (1, (num(6), B), 3)))]
            self.assert_fault(program, lane, None)
            # That the box is 0 behind yes is not known.
            lane = target + [(2, [(0, 1, (A, B))], ("test", (0, (A, num(0)), 3), (0, (A, B), 2)))]
            self.assert_fault(program, lane, (5, "edge"))

    def test_a_test_that_leads_to_the_same_row(self):
        program = [(0, 1, [("zero", 0, 1), ("back", 0)])]
        lane = [(1, [(0, 0, (A,))], ("test", (0, (A,), 1), (0, (A,), 1))), (1, [(0, 1, (A,))], LEAVE)]
        self.assert_fault(program, lane, None)

    def test_sums_put_in(self):
        program = [(0, 3, [("plus", 2, 0, 1), ("times", 2, 2, -3), ("less", 0, 2, 0), ("jump", 0)])]
        # From (a, b, c): c gets -3 (a + b), a gets -4 a - 3 b.
        moves = ((0, ((-4, 0), (-3, 1))), B, (0, ((-3, 0), (-3, 1))))
        self.assert_fault(program, [(3, [(0, 0, words(3))], ("go", (4, moves, 0)))], None)
        for w in range(3):
            for change in (num(0), A, B, C, (1, ((1, 1),)), (0, ((-4, 0), (3, 1))), (1, ((-3, 0), (-3, 1)))):
                other = list(moves)
                other[w] = change
                lane = [(3, [(0, 0, words(3))], ("go", (4, tuple(other), 0)))]
                self.assert_fault(program, lane, None if tuple(other) == moves else (0, "edge"))

    def test_a_paper_of_sums(self):
        program = [(0, 3, [("plus", 2, 0, 1), ("times", 2, 2, -3), ("less", 0, 2, 0), ("jump", 0)])]
        # From (b, b, c): the last box gets -6 b, the first one -7 b.
        start = [(0, 0, (B, B, C))]
        paper = [(0, 3, ((-2, ((1, 0), (-1, 1))), (2, ((1, 1),)), A))]
        for moves, like in ((((0, ((-6, 1),)), (-2, ((1, 1),))), True), (((0, ((-6, 1),)), B), False),
                            (((0, ((-6, 1),)), (-2, ((1, 0),))), False), (((0, ((6, 1),)), (-2, ((1, 1),))), False),
                            (((1, ((-6, 1),)), (-2, ((1, 1),))), False), ((A, B), False)):
            lane = [(3, start, ("go", (3, moves, 1))), (2, paper, LEAVE)]
            self.assert_fault(program, lane, None if like else (0, "edge"))

    def test_words_that_cancel_one_another(self):
        paper = [(0, 0, ((4, ((1, 0), (-1, 1))),))]
        for moves, like in (((A, A), True), ((num(3), num(3)), True), ((A, num(3)), False),
                            ((A, (1, ((1, 0),))), False)):
            lane = [(1, [(0, 0, (num(4),))], ("go", (1, moves, 1))), (2, paper, LEAVE)]
            self.assert_fault(LOOP, lane, None if like else (0, "edge"))

    def test_numbers_of_three_hundred_figures(self):
        program = [(0, 2, [("plus", 0, 0, 1), ("less", 1, 0, 1), ("jump", 0)])]
        half = 5 * 10 ** 299 - 1
        start = [(0, 0, ((half, ((half, 0),)), (half, ((-half, 0), (1, 1)))))]
        for change in (-1, 0, 1):
            moves = ((2 * half + change, ((1, 1),)), (half, ((half, 0),)))
            lane = [(2, start, ("go", (3, moves, 1))), (2, [(0, 0, (A, B))], LEAVE)]
            self.assert_fault(program, lane, (0, "edge") if change else None)


class Holds(JudgeCase):
    def test_the_number_is_put_in_in_the_paper(self):
        for n in (0, 5, -5, HUGE):
            for other in (0, 5, -5, HUGE):
                lane = [(1, [(0, 0, (A,))], ("hold", 0, n, (0, (), 1))), (0, [(0, 0, (num(other),))], LEAVE)]
                self.assert_fault(LOOP, lane, None if n == other else (0, "edge"))
                lane = [(1, [(0, 0, ((7, ((-2, 0),)),))], ("hold", 0, n, (0, (), 1))),
                        (0, [(0, 0, (num(7 - 2 * other),))], LEAVE)]
                self.assert_fault(LOOP, lane, None if n == other else (0, "edge"))

    def test_the_number_is_put_in_in_the_moves(self):
        for move, like in ((A, True), (num(5), True), ((10, ((-1, 0),)), True), ((-5, ((2, 0),)), True),
                           (num(4), False), ((0, ((2, 0),)), False), ((1, ((1, 0),)), False), (num(-5), False)):
            lane = [(1, [(0, 0, (A,))], ("hold", 0, 5, (0, (move,), 1))), (1, [(0, 0, (A,))], LEAVE)]
            self.assert_fault(LOOP, lane, None if like else (0, "edge"))
            lane = [(1, [(0, 0, (A,))], ("hold", 0, 5, (1, (move,), 0)))]
            self.assert_fault(LOOP, lane, None if like else (0, "edge"))
            # Without the hold only the word itself will do.
            lane = [(1, [(0, 0, (A,))], ("go", (1, (move,), 0)))]
            self.assert_fault(LOOP, lane, None if move == A else (0, "edge"))

    def test_only_word_w_is_known(self):
        program = [(0, 2, [("jump", 0)])]
        for w in (0, 1):
            for moves, known in (((A, B), (0, 1)), ((num(5), B), (0,)), ((A, num(5)), (1,)), ((num(5), num(5)), ()),
                                 ((B, A), ())):
                lane = [(2, [(0, 0, (A, B))], ("hold", w, 5, (1, moves, 0)))]
                self.assert_fault(program, lane, None if w in known else (0, "edge"))

    def test_silent_rows_behind_a_hold(self):
        program = [(0, 2, [("zero", 0, 3), ("below", 0, 4), ("back", 0), ("back", 0), ("back", 1)])]
        for n, rows, at in ((0, 1, 3), (1, 1, 1), (-1, 1, 1), (1, 2, 2), (-1, 2, 4)):
            for other in range(5):
                target = (1, [(0, other, (num(n), A))], LEAVE)
                lane = [(2, [(0, 0, (A, B))], ("hold", 0, n, (rows, (B,), 1))), target]
                self.assert_fault(program, lane, None if other == at else (0, "edge"))
                lane = [(2, [(0, 0, (A, B))], ("hold", 1, n, (rows, (B,), 1))), target]
                self.assert_fault(program, lane, (0, "edge"))
        lane = [(2, [(0, 0, (A, B))], ("go", (1, (A, B), 1))), (2, [(0, 3, (A, B))], LEAVE)]
        self.assert_fault(program, lane, (0, "edge"))

    def test_words_that_make_a_form_plain_together(self):
        program = [(0, 1, [("zero", 0, 1), ("back", 0)])]
        for start, n, plain in (((3, ((1, 0),)), -3, True), ((3, ((1, 0), (1, 1))), -3, False),
                                ((0, ((2, 0),)), 0, True)):
            lane = [(2, [(0, 0, (start,))], ("hold", 0, n, (1, (), 1))), (0, [(0, 1, (num(0),))], LEAVE)]
            self.assert_fault(program, lane, None if plain else (0, "edge"))

    def test_all_sign_frames_get_the_number(self):
        program = [(0, 1, [("call", 0, 1, (0,)), ("back", 0)]), (1, 2, [("jump", 0)])]
        start = [(0, 0, (A,)), (1, 0, (A, B))]
        for first, second, like in (((num(9),), (num(9), A), True), ((num(9),), (A, A), False),
                                    ((A,), (num(9), A), False), ((num(9),), (num(9), num(9)), False)):
            for rows in (0, 1):
                lane = [(2, start, ("hold", 0, 9, (rows, (B,), 1))), (1, [(0, 0, first), (1, 0, second)], LEAVE)]
                self.assert_fault(program, lane, None if like else (0, "edge"))


class Order(JudgeCase):
    WRONG_EDGE = (0, (A,), HUGE)

    def test_paper_deed_edge_of_one_stand(self):
        paper = [(0, 0, (A,))]
        for many, deed, expected in ((41, ("stay",), "paper"), (41, ("go", self.WRONG_EDGE), "paper"),
                                     (41, LEAVE, "paper"), (1, ("tell", self.WRONG_EDGE), "deed"),
                                     (1, ("go", self.WRONG_EDGE, 0), "deed"),
                                     (1, ("hold", 1, 0, self.WRONG_EDGE), "deed"), (1, ("go", self.WRONG_EDGE), "edge"),
                                     (1, ("hold", 0, 0, self.WRONG_EDGE), "edge")):
            self.assert_fault(LOOP, [(many, paper, deed)], (0, expected))
            self.assert_fault(LOOP, [loop_stand(1, 0)] * 5 + [(many, paper, deed)], (5, expected))

    def test_the_least_stand_goes_first(self):
        paper = [(0, 0, (A,))]
        wrong = {"paper": (1, [(0, 9, (A,))], LEAVE), "deed": (1, paper, ("stay",)),
                 "edge": (1, paper, ("go", self.WRONG_EDGE))}
        for first in wrong:
            for second in wrong:
                for third in wrong:
                    lane = [loop_stand(1, 0), wrong[first], loop_stand(2, 3), loop_stand(2, 0), wrong[second],
                            wrong[third]]
                    self.assert_fault(LOOP, lane, (1, first))
                    self.assert_fault(LOOP, [loop_stand(1, 0), loop_stand(1, 0)] + lane[4:], (2, second))
                    self.assert_fault(LOOP, [wrong[third]] + lane, (0, third))

    def test_each_stand_of_a_lane(self):
        for k in range(len(BASE)):
            self.assert_fault(MAIN, self.with_deed(k, ("stay",)), (k, "deed"))
            self.assert_fault(MAIN, self.with_deed(k, ("go", (0, (), 99))), (k, "edge"))
            if k in (4, 7):
                continue
            self.assert_fault(MAIN, self.with_deed(k, LEAVE), None)

    def test_a_wrong_paper_is_seen_by_the_edges_ahead(self):
        ahead = {0: 0, 1: 0, 2: 1, 3: 2, 4: 3, 5: 3, 6: 6, 7: 5}
        for k in range(len(BASE)):
            lane = self.with_stand(k, (41,) + BASE[k][1:])
            self.assert_fault(MAIN, lane, (ahead[k], "paper" if ahead[k] == k else "edge"))

    def test_yes_and_no(self):
        yes, no = BASE[3][2][1:]
        for wrong in (self.WRONG_EDGE, (201, (A, B), 4), (0, (A,), 4), (0, (A, B), 3), (1, (A, B), 4), (0, (B, A), 5)):
            self.assert_fault(MAIN, self.with_deed(3, ("test", wrong, no)), (3, "edge"))
            self.assert_fault(MAIN, self.with_deed(3, ("test", yes, wrong)), (3, "edge"))
            self.assert_fault(MAIN, self.with_deed(3, ("test", wrong, wrong)), (3, "edge"))
        self.assert_fault(MAIN, self.with_deed(3, ("test", no, yes)), (3, "edge"))

    def test_a_round_goes_behind_all_these(self):
        lane = [loop_stand(0, 0), loop_stand(1, 0), loop_stand(1, 1)]
        self.assert_fault(LOOP, lane, (0, "round"))
        for wrong, name in (((1, [(0, 9, (A,))], LEAVE), "paper"), ((1, [(0, 0, (A,))], ("stay",)), "deed"),
                            ((1, [(0, 0, (A,))], ("go", self.WRONG_EDGE)), "edge")):
            self.assert_fault(LOOP, lane + [wrong], (3, name))


class Rounds(JudgeCase):
    def assert_rounds(self, leads, expected):
        """A stand for each lead: (rows, k) goes an edge, None leaves."""
        lane = [(1, [(0, 0, (A,))], LEAVE) if lead is None else loop_stand(*lead) for lead in leads]
        self.assert_fault(LOOP, lane, None if expected is None else (expected, "round"))
        held = [stand if lead is None else stand[:2] + (("hold", 0, 3, (lead[0], (A,), lead[1])),)
                for stand, lead in zip(lane, leads)]
        self.assert_fault(LOOP, held, None if expected is None else (expected, "round"))
        mixed = [(held if k % 2 else lane)[k] for k in range(len(lane))]
        self.assert_fault(LOOP, mixed, None if expected is None else (expected, "round"))

    def test_a_stand_that_leads_to_itself(self):
        self.assert_rounds([(0, 0)], 0)
        self.assert_rounds([(1, 0)], None)
        self.assert_rounds([(200, 0)], None)
        self.assert_rounds([None, None, (0, 2)], 2)
        self.assert_rounds([(0, 1), (0, 1)], 1)

    def test_rounds_of_several_stands(self):
        for many in (2, 3, 4, 7, 99, 100):
            around = [(0, (k + 1) % many) for k in range(many)]
            self.assert_rounds(around, 0)
            self.assert_rounds([(0, k - 1) if k else (0, many - 1) for k in range(many)], 0)
            for at in {0, 1, many // 2, many - 1}:
                self.assert_rounds(around[:at] + [(1, (at + 1) % many)] + around[at + 1:], None)
                self.assert_rounds(around[:at] + [None] + around[at + 1:], None)

    def test_stands_that_lead_to_a_round(self):
        self.assert_rounds([(0, 1), (0, 2), (0, 1)], 1)
        self.assert_rounds([(0, 3), (0, 0), (0, 1), (0, 4), (0, 3)], 3)
        self.assert_rounds([(0, k + 1) for k in range(99)] + [(0, 50)], 50)
        self.assert_rounds([(0, k + 1) for k in range(99)] + [(0, 99)], 99)
        self.assert_rounds([(0, k + 1) for k in range(99)] + [(1, 0)], None)
        self.assert_rounds([(0, k + 1) for k in range(99)] + [None], None)
        self.assert_rounds([(1, 1), (0, 2), (0, 3), (0, 2)], 2)

    def test_the_least_stand_of_several_rounds(self):
        self.assert_rounds([None, (0, 3), (0, 2), (0, 1)], 1)
        self.assert_rounds([(1, 0), (0, 4), (0, 3), (0, 2), (0, 4)], 2)
        self.assert_rounds([(0, 5), (1, 4), (0, 4), (0, 3), (0, 2), (1, 0)], 2)
        self.assert_rounds([(0, 9), (0, 8), (0, 7), (0, 6), (0, 5), (0, 4), (0, 3), (0, 2), (0, 1), (0, 9)], 1)

    def test_several_ways_to_one_stand(self):
        self.assert_rounds([(0, 3), (0, 3), (0, 3), None], None)
        self.assert_rounds([(0, 3), (0, 3), (0, 3), (1, 0)], None)
        self.assert_rounds([(0, 3), (0, 3), (0, 3), (0, 1)], 1)

    def test_a_tests_edges_go_a_row(self):
        for name in ("zero", "below"):
            program = [(0, 1, [(name, 0, 0), ("back", 0)])]
            here = [(0, 0, (A,))]
            last = (1, [(0, 1, (A,))], LEAVE)
            test = (1, here, ("test", (0, (A,), 0), (0, (A,), 1)))
            self.assert_fault(program, [test, last], None)
            lane = [(1, here, ("go", (0, (A,), 2))), last, (1, here, ("test", (0, (A,), 0), (0, (A,), 1)))]
            self.assert_fault(program, lane, None)
            lane = [(1, here, ("hold", 0, 4, (0, (A,), 2))), last, (1, here, ("test", (0, (A,), 0), (0, (A,), 1)))]
            self.assert_fault(program, lane, None)
            self.assert_fault(program, [test, last, (1, here, ("go", (0, (A,), 2)))], (2, "round"))

    def test_tells_and_takes_on_a_round(self):
        program = [(0, 1, [("tell", 0), ("take", 0), ("jump", 0)])]
        lane = [(1, [(0, 0, (A,))], ("tell", (0, (A,), 1))), (1, [(0, 1, (A,))], ("go", (0, (A,), 2))),
                (1, [(0, 1, (A,))], ("take", (1, (B,), 0)))]
        self.assert_fault(program, lane, None)
        lane[1] = (1, [(0, 1, (A,))], ("go", (0, (A,), 1)))
        self.assert_fault(program, lane, (1, "round"))

    def test_rounds_that_a_lane_begins_with(self):
        lane = list(BASE)
        lane[7] = (1, [(0, 5, (A, num(5), num(3)))], ("go", (0, (A, num(3)), 5)))
        self.assert_fault(MAIN, lane, (5, "round"))


if __name__ == "__main__":
    unittest.main()

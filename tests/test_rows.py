"""Points 2 and 6 to 9: the rows behind a row, and formed programs."""

import copy
import unittest

from midlanes.rows import formed, nexts

GREATEST = 10 ** 60 - 1

# Rows that fit into any def of three boxes or more and five rows or more, beside defs that take 0 and 2.
STRAIGHT = [
    ("put", 0, -12),
    ("copy", 1, 0),
    ("plus", 2, 0, 1),
    ("less", 2, 1, 0),
    ("times", 0, 2, -3),
    ("take", 1),
    ("tell", 2),
    ("call", 1, 0, ()),
    ("call", 0, 1, (1, 2)),
]
WORDS = ("put", "copy", "plus", "less", "times", "take", "tell", "jump", "zero", "below", "call", "back")


def all_words():
    """A formed program with a row of each of the twelve words in each of its defs."""
    rows = STRAIGHT + [("zero", 0, 2), ("below", 1, 11), ("jump", 0), ("back", 2)]
    return [(0, 3, list(rows)), (2, 3, list(rows))]


def with_row(row, boxes=3, rows=6, at=1, more=()):
    """A program whose def 0 has the row at its place among so many; more are the defs behind."""
    whole = [("put", 0, 1)] * (rows - 1) + [("back", 0)]
    whole[at] = row
    return [(0, boxes, whole)] + list(more)


def small_def(takes=0, boxes=4):
    return (takes, boxes, [("back", 0)])


class Nexts(unittest.TestCase):
    def assert_nexts(self, rows, at, expected):
        told = nexts(rows, at)
        self.assertEqual(told, expected)
        self.assertIs(type(told), list)
        self.assertEqual([type(n) for n in told], [int] * len(told))

    def test_behind_most_words_comes_the_next_row(self):
        rows = STRAIGHT + [("back", 0)]
        for at in range(len(STRAIGHT)):
            self.assert_nexts(rows, at, [at + 1])

    def test_behind_each_of_these_words_at_the_first_row(self):
        for row in STRAIGHT:
            self.assert_nexts([row, ("back", 0)], 0, [1])

    def test_numbers_that_are_no_targets_do_not_count(self):
        self.assert_nexts([("put", 0, 5), ("back", 0)], 0, [1])
        self.assert_nexts([("times", 2, 2, 7), ("back", 0)], 0, [1])
        self.assert_nexts([("call", 2, 3, (4, 5)), ("back", 0)], 0, [1])

    def test_behind_back_comes_none(self):
        self.assert_nexts([("back", 0)], 0, [])
        self.assert_nexts([("put", 0, 1), ("back", 1), ("back", 0)], 1, [])

    def test_behind_jump_comes_its_target_alone(self):
        for t in range(5):
            rows = [("put", 0, 1)] * 4 + [("back", 0)]
            rows[2] = ("jump", t)
            self.assert_nexts(rows, 2, [t])
        self.assert_nexts([("put", 0, 1), ("jump", 0)], 1, [0])

    def test_behind_zero_and_below_come_the_target_and_the_next_row(self):
        for word in ("zero", "below"):
            for t, expected in ((0, [0, 3]), (1, [1, 3]), (2, [2, 3]), (3, [3]), (4, [3, 4]), (29, [3, 29])):
                rows = [("put", 0, 1)] * 29 + [("back", 0)]
                rows[2] = (word, 7, t)
                self.assert_nexts(rows, 2, expected)
            for t in (2, 8, 16, 24, 29):
                self.assert_nexts([(word, 7, t)] + [("put", 0, 1)] * 28 + [("back", 0)], 0, [1, t])
            self.assert_nexts([(word, 0, 0), ("back", 0)], 0, [0, 1])
            self.assert_nexts([(word, 0, 1), ("back", 0)], 0, [1])

    def test_the_list_is_a_new_one(self):
        rows = [("zero", 0, 0), ("put", 0, 1), ("jump", 1), ("back", 0)]
        for at in range(4):
            told = nexts(rows, at)
            before = list(told)
            told.append(99)
            self.assertEqual(nexts(rows, at), before)

    def test_the_rows_stay_as_they_were_and_are_read_anew(self):
        rows = [("zero", 0, 0), ("back", 0)]
        before = copy.deepcopy(rows)
        self.assert_nexts(rows, 0, [0, 1])
        self.assertEqual(rows, before)
        rows[0] = ("jump", 1)
        self.assert_nexts(rows, 0, [1])


class FormedCase(unittest.TestCase):
    def assert_formed(self, program, expected):
        before = copy.deepcopy(program)
        self.assertIs(formed(program), expected, program if len(repr(program)) < 2000 else "a long program")
        self.assertEqual(program, before)


class Whole(FormedCase):
    def test_programs_of_all_words(self):
        self.assertEqual({row[0] for row in all_words()[0][2]}, set(WORDS))
        self.assert_formed(all_words(), True)

    def test_the_least_program(self):
        self.assert_formed([(0, 1, [("back", 0)])], True)
        self.assert_formed([(0, 1, [("jump", 0)])], True)

    def test_the_greatest_program(self):
        rows = [("call", 7, 5, (0, 7, 3, 7))] * 29 + [("jump", 29)]
        self.assert_formed([(0, 8, list(rows))] + [(4, 8, list(rows)) for k in range(5)], True)

    def test_how_many_defs(self):
        for many in range(1, 7):
            self.assert_formed([small_def() for k in range(many)], True)
        for many in (7, 8, 400, 20000):
            self.assert_formed([small_def() for k in range(many)], False)
        self.assert_formed([], False)

    def test_how_many_rows(self):
        for many in (1, 2, 29, 30):
            rows = [("put", 0, 1)] * (many - 1) + [("back", 0)]
            self.assert_formed([(0, 1, rows)], True)
            self.assert_formed([small_def(), (0, 1, rows)], True)
        for many in (31, 32, 400, 20000):
            rows = [("put", 0, 1)] * (many - 1) + [("back", 0)]
            self.assert_formed([(0, 1, rows)], False)
            self.assert_formed([small_def(), (0, 1, rows)], False)

    def test_no_rows(self):
        self.assert_formed([(0, 1, [])], False)
        self.assert_formed([small_def(), (0, 1, [])], False)
        self.assert_formed([small_def(), (0, 1, []), small_def()], False)

    def test_how_many_boxes(self):
        for boxes in range(1, 9):
            self.assert_formed([(0, boxes, [("back", 0)])], True)
            self.assert_formed([small_def(), (0, boxes, [("back", 0)])], True)
        for boxes in (0, -1, 9, 10, GREATEST, -GREATEST):
            self.assert_formed([(0, boxes, [("jump", 0)])], False)
            self.assert_formed([small_def(), (0, boxes, [("jump", 0)])], False)

    def test_how_many_takes(self):
        for takes in range(5):
            self.assert_formed([small_def(), (takes, 8, [("back", 0)])], True)
        for takes in (-1, -GREATEST, 5, 6, 8, GREATEST):
            self.assert_formed([small_def(), (takes, 8, [("back", 0)])], False)
            self.assert_formed([small_def(), small_def(), (takes, 8, [("back", 0)])], False)

    def test_takes_are_not_more_than_boxes(self):
        for boxes in range(1, 5):
            for takes in range(5):
                self.assert_formed([small_def(), (takes, boxes, [("back", 0)])], takes <= boxes)

    def test_def_0_takes_nothing(self):
        for takes in (1, 2, 3, 4, 5, -1):
            self.assert_formed([(takes, 8, [("back", 0)])], False)
            self.assert_formed([(takes, 8, [("back", 0)]), small_def()], False)

    def test_each_defs_last_row_is_a_jump_or_a_back(self):
        lasts = STRAIGHT + [("zero", 0, 0), ("below", 0, 0)]
        self.assertEqual({row[0] for row in lasts} | {"jump", "back"}, set(WORDS))
        for f in range(2):
            for row in lasts:
                program = all_words()
                program[f][2][-1] = row
                self.assert_formed(program, False)
            program = all_words()
            program[f][2][-1] = ("jump", 12)
            self.assert_formed(program, True)

    def test_jumps_and_backs_may_stand_anywhere(self):
        self.assert_formed([(0, 1, [("jump", 2), ("back", 0), ("jump", 0)])], True)
        self.assert_formed([(0, 1, [("back", 0), ("jump", 0), ("back", 0)])], True)

    def test_a_wrong_row_anywhere(self):
        for f in range(2):
            for at in range(13):
                for row in (("put", 3, 0), ("halt",), ("back",), ("jump", 13)):
                    program = all_words()
                    program[f][2][at] = row
                    self.assert_formed(program, False)

    def test_the_program_is_read_anew(self):
        program = all_words()
        self.assert_formed(program, True)
        program[1][2][4] = ("times", 0, 2, 100)
        self.assert_formed(program, False)
        program[1][2][4] = ("times", 0, 2, 99)
        self.assert_formed(program, True)
        program.append((5, 5, [("back", 0)]))
        self.assert_formed(program, False)


class Parts(FormedCase):
    def assert_parts(self, word, kinds, boxes, rows):
        """Puts numbers at each part's bounds and beside them, the other parts being 0."""
        bounds = {"box": (0, boxes - 1), "row": (0, rows - 1), "factor": (-99, 99)}
        for place, kind in enumerate(kinds):
            least, most = bounds[kind]
            for number in (least, most, 0, least - 1, most + 1, least - GREATEST, GREATEST):
                parts = [0] * len(kinds)
                parts[place] = number
                self.assert_formed(with_row((word, *parts), boxes, rows), least <= number <= most)
            for wrong in ((), (0,), (0, 0)):
                parts = [0] * len(kinds)
                parts[place] = wrong
                self.assert_formed(with_row((word, *parts), boxes, rows), False)

    def test_each_part_at_its_bounds_and_beside(self):
        for boxes, rows in ((1, 3), (4, 7), (8, 30)):
            self.assert_parts("copy", ("box", "box"), boxes, rows)
            self.assert_parts("plus", ("box", "box", "box"), boxes, rows)
            self.assert_parts("less", ("box", "box", "box"), boxes, rows)
            self.assert_parts("times", ("box", "box", "factor"), boxes, rows)
            self.assert_parts("take", ("box",), boxes, rows)
            self.assert_parts("tell", ("box",), boxes, rows)
            self.assert_parts("jump", ("row",), boxes, rows)
            self.assert_parts("zero", ("box", "row"), boxes, rows)
            self.assert_parts("below", ("box", "row"), boxes, rows)
            self.assert_parts("back", ("box",), boxes, rows)

    def test_put_takes_any_number(self):
        for n in (0, 1, -1, 99, 100, -100, GREATEST, -GREATEST):
            self.assert_formed(with_row(("put", 0, n)), True)
        for p, fits in ((0, True), (2, True), (3, False), (-1, False), (GREATEST, False)):
            self.assert_formed(with_row(("put", p, 5)), fits)
        self.assert_formed(with_row(("put", 0, (5,))), False)
        self.assert_formed(with_row(("put", (0,), 5)), False)

    def test_a_part_more_or_less(self):
        many = {"put": 2, "copy": 2, "plus": 3, "less": 3, "times": 3, "take": 1, "tell": 1, "jump": 1, "zero": 2,
                "below": 2, "back": 1}
        for word in many:
            for parts in range(7):
                self.assert_formed(with_row((word,) + (0,) * parts), parts == many[word])
            self.assert_formed(with_row((word,) + (0,) * many[word] + ((),)), False)
            self.assert_formed(with_row((word,) + (0,) * 5000), False)

    def test_last_rows_are_looked_at_too(self):
        for row in (("back",), ("back", 3), ("back", -1), ("back", 0, 0), ("back", (0,)),
                    ("jump",), ("jump", 6), ("jump", -1), ("jump", 0, 0), ("jump", (0,))):
            self.assert_formed(with_row(row, at=5), False)
        self.assert_formed(with_row(("back", 2), at=5), True)
        self.assert_formed(with_row(("jump", 5), at=5), True)

    def test_words_that_are_none_of_the_table(self):
        for word in ("", " ", "halt", "Put", "PUT", "put ", " put", "pu", "puts", "def", "add", "go", "test", "hold",
                     "leave", "edge", "number", "box", "zero below"):
            for parts in range(5):
                self.assert_formed(with_row((word,) + (0,) * parts), False)
            self.assert_formed(with_row((word, 0, 0, ())), False)

    def test_boxes_and_rows_are_those_of_the_own_def(self):
        for row, fits in ((("tell", 1), True), (("tell", 2), False), (("zero", 0, 2), True), (("zero", 0, 3), False)):
            small = (0, 2, [("put", 0, 1), row, ("back", 0)])
            great = (0, 8, [("put", 7, 1)] * 20 + [("jump", 20)])
            self.assert_formed([small, great], fits)
            self.assert_formed([great, small], fits)


class Calls(FormedCase):
    def test_as_many_qs_as_the_called_def_takes(self):
        more = [small_def(takes) for takes in (0, 1, 2, 3, 4)]
        for f in range(1, 6):
            for many in range(7):
                self.assert_formed(with_row(("call", 0, f, (0,) * many), more=more), many == f - 1)
            self.assert_formed(with_row(("call", 0, f, (0,) * 5000), more=more), False)

    def test_def_0_takes_no_qs(self):
        self.assert_formed(with_row(("call", 0, 0, ())), True)
        self.assert_formed(with_row(("call", 0, 0, (0,))), False)

    def test_a_def_may_call_itself_and_those_ahead(self):
        rows = [("call", 0, 2, (0, 1)), ("call", 0, 1, (0,)), ("call", 0, 0, ()), ("back", 0)]
        self.assert_formed([small_def(), (1, 2, list(rows)), (2, 2, list(rows))], True)
        for f, many in ((0, 1), (0, 2), (1, 0), (1, 2), (2, 0), (2, 1), (2, 3)):
            wrong = [("call", 0, f, (0,) * many)] + rows
            self.assert_formed([small_def(), (1, 2, list(rows)), (2, 2, wrong)], False)

    def test_the_called_def_at_its_bounds_and_beside(self):
        for defs in range(1, 7):
            more = [small_def() for k in range(defs - 1)]
            for f in (0, defs - 1, -1, -defs, defs, defs + 1, GREATEST, -GREATEST):
                self.assert_formed(with_row(("call", 0, f, ()), more=more), 0 <= f < defs)

    def test_the_box_at_its_bounds_and_beside(self):
        for boxes in (1, 4, 8):
            for p in (0, boxes - 1, -1, boxes, GREATEST):
                self.assert_formed(with_row(("call", p, 0, ()), boxes), 0 <= p < boxes)

    def test_each_q_at_its_bounds_and_beside(self):
        # The called def has other boxes than the own one: the q's are boxes of the own one.
        for own, called in ((3, 8), (8, 4)):
            for place in range(4):
                for q in (0, own - 1, -1, own, -own, GREATEST):
                    qs = [0, 0, 0, 0]
                    qs[place] = q
                    program = with_row(("call", 0, 1, tuple(qs)), own, more=[small_def(4, called)])
                    self.assert_formed(program, 0 <= q < own)

    def test_tuples_and_numbers_in_the_wrong_place(self):
        more = [small_def(1)]
        self.assert_formed(with_row(("call", 0, 1, (0,)), more=more), True)
        self.assert_formed(with_row(("call", 0, 1, 0), more=more), False)
        self.assert_formed(with_row(("call", 0, 1, 1), more=more), False)
        self.assert_formed(with_row(("call", 0, (1,), (0,)), more=more), False)
        self.assert_formed(with_row(("call", 0, (), (0,)), more=more), False)
        self.assert_formed(with_row(("call", (0,), 1, (0,)), more=more), False)
        self.assert_formed(with_row(("call", (), 1, (0,)), more=more), False)
        self.assert_formed(with_row(("call", 0, 0, 0)), False)

    def test_a_part_more_or_less(self):
        more = [small_def(1)]
        for row in (("call",), ("call", 0), ("call", 0, 1), ("call", 0, 0), ("call", 0, (0,)), ("call", 0, 1, (0,), 0),
                    ("call", 0, 1, (0,), ()), ("call", 0, 1, (0,), (0,)), ("call", 0, 1, 0, (0,)), ("call", 1, (0,)),
                    ("call", 0, 0, (), ()), ("call", 0, 0, (), 0)):
            self.assert_formed(with_row(row, more=more), False)

    def test_a_wrong_def_that_is_called(self):
        for called in ((-1, 4, [("back", 0)]), (5, 8, [("back", 0)]), (2, 1, [("back", 0)])):
            program = with_row(("call", 0, 1, (0,) * max(called[0], 0)), more=[called])
            self.assert_formed(program, False)


if __name__ == "__main__":
    unittest.main()

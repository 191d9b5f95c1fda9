"""Points 2, 13, 14 and 18: silent rows on sign frames, and doors."""

import copy
import random
import unittest

from midlanes.papers import is_door, silent
from midlanes.rows import formed

GREATEST = 10 ** 300 - 1
WORDS = ("put", "copy", "plus", "less", "times", "take", "tell", "jump", "zero", "below", "call", "back")


def num(n):
    return (n, ())


def word(w):
    return (0, ((1, w),))


X = (7, ((2, 0), (-1, 3)))
Y = (-4, ((5, 1),))
Z = (0, ((1, 0), (1, 1), (1, 3)))
FORMS = (X, Y, Z, num(6))


def is_told_form(form):
    """Whether the form is of its kinds, its words rising and none of its numbers 0."""
    if [type(part) for part in form] != [int, tuple] or type(form) is not tuple:
        return False
    kinds = {(type(pair), *[type(n) for n in pair]) for pair in form[1]}
    words = [w for a, w in form[1]]
    return kinds <= {(tuple, int, int)} and all(a for a, w in form[1]) and words == sorted(set(words))


def worth_of(form, words):
    return form[0] + sum(a * words[w] for a, w in form[1])


def worths(frames, words):
    return [(f, at, tuple(worth_of(form, words) for form in forms)) for f, at, forms in frames]


def gone_plainly(program, frames):
    """The frames of numbers behind the row of the last one, a row that does not end the run."""
    (f, at, boxes), older = frames[-1], frames[:-1]
    name, *parts = program[f][2][at]
    if name == "call":
        handed = tuple(boxes[q] for q in parts[2])
        return frames + [(parts[1], 0, handed + (0,) * (program[parts[1]][1] - len(handed)))]
    if name == "back":
        g, wait, others = older[-1]
        p = program[g][2][wait][1]
        return older[:-1] + [(g, wait + 1, others[:p] + (boxes[parts[0]],) + others[p + 1:])]
    gets = {"put": lambda: parts[1], "copy": lambda: boxes[parts[1]],
            "plus": lambda: boxes[parts[1]] + boxes[parts[2]], "less": lambda: boxes[parts[1]] - boxes[parts[2]],
            "times": lambda: boxes[parts[1]] * parts[2]}
    if name in gets:
        return older + [(f, at + 1, boxes[:parts[0]] + (gets[name](),) + boxes[parts[0] + 1:])]
    leads = {"jump": lambda: True, "zero": lambda: boxes[parts[0]] == 0, "below": lambda: boxes[parts[0]] < 0}
    return older + [(f, parts[-1] if leads[name]() else at + 1, boxes)]


class PaperCase(unittest.TestCase):
    def assert_silent(self, program, frames, expected):
        self.assertTrue(formed(program))
        before = copy.deepcopy((program, frames))
        told = silent(program, frames)
        self.assertEqual(told, expected)
        self.assertEqual((program, frames), before)
        if expected is None:
            return
        self.assertIs(type(told), list)
        self.assertIsNot(told, frames)
        for frame in told:
            self.assertIs(type(frame), tuple)
            self.assertEqual([type(part) for part in frame], [int, int, tuple])
            for form in frame[2]:
                self.assertTrue(is_told_form(form), form)
        told.append(told[0])
        self.assertEqual(frames, before[1])
        self.assertEqual(silent(program, frames), expected)


def of_row(row, rows=9, at=2):
    """A program whose def 0, of four boxes, has the row at its place, and whose others wait for one another.

    Defs 1, 2 and 3 have four boxes, and call at row 3 the def one below.
    """
    whole = [("tell", 0)] * (rows - 1) + [("back", 3)]
    whole[at] = row
    program = [(0, 4, whole)]
    for f in (1, 2, 3):
        takes = 0 if f == 1 else 1
        program.append((1, 4, [("tell", 0)] * 3 + [("call", f, f - 1, (2,) * takes), ("back", 1)]))
    return program


def waiting(many):
    """So many sign frames that wait for one of def 0, in a program of of_row."""
    return [(f, 3, (word(f), X, num(f), Z)) for f in range(many, 0, -1)]


class EachWord(PaperCase):
    def assert_row(self, row, at, forms, before=FORMS):
        """Gone by one to four sign frames, the row leads the last one to at, with these forms."""
        for many in range(4):
            frames = waiting(many) + [(0, 2, tuple(before))]
            self.assert_silent(of_row(row), frames, waiting(many) + [(0, at, tuple(forms))])

    def assert_not_silent(self, row, before=FORMS, most=4):
        for many in range(most):
            self.assert_silent(of_row(row), waiting(many) + [(0, 2, tuple(before))], None)

    def with_form(self, p, form):
        return FORMS[:p] + (form,) + FORMS[p + 1:]

    def test_put(self):
        for n in (0, 1, -5, 10 ** 60 - 1, 1 - 10 ** 60):
            for p in range(4):
                self.assert_row(("put", p, n), 3, self.with_form(p, (n, ())))

    def test_copy(self):
        for p in range(4):
            for q in range(4):
                self.assert_row(("copy", p, q), 3, self.with_form(p, FORMS[q]))

    def test_plus(self):
        for p in range(4):
            self.assert_row(("plus", p, 0, 1), 3, self.with_form(p, (3, ((2, 0), (5, 1), (-1, 3)))))
            self.assert_row(("plus", p, 1, 0), 3, self.with_form(p, (3, ((2, 0), (5, 1), (-1, 3)))))
            self.assert_row(("plus", p, 0, 2), 3, self.with_form(p, (7, ((3, 0), (1, 1)))))
            self.assert_row(("plus", p, 0, 0), 3, self.with_form(p, (14, ((4, 0), (-2, 3)))))
            self.assert_row(("plus", p, 1, 3), 3, self.with_form(p, (2, ((5, 1),))))
            self.assert_row(("plus", p, 3, 3), 3, self.with_form(p, (12, ())))

    def test_less(self):
        for p in range(4):
            self.assert_row(("less", p, 0, 1), 3, self.with_form(p, (11, ((2, 0), (-5, 1), (-1, 3)))))
            self.assert_row(("less", p, 1, 0), 3, self.with_form(p, (-11, ((-2, 0), (5, 1), (1, 3)))))
            self.assert_row(("less", p, 0, 2), 3, self.with_form(p, (7, ((1, 0), (-1, 1), (-2, 3)))))
            self.assert_row(("less", p, 0, 0), 3, self.with_form(p, (0, ())))
            self.assert_row(("less", p, 3, 1), 3, self.with_form(p, (10, ((-5, 1),))))
            self.assert_row(("less", p, 1, 3), 3, self.with_form(p, (-10, ((5, 1),))))

    def test_times(self):
        for p in range(4):
            for n in (1, -1, 2, 99, -99):
                self.assert_row(("times", p, 0, n), 3, self.with_form(p, (7 * n, ((2 * n, 0), (-n, 3)))))
                self.assert_row(("times", p, 1, n), 3, self.with_form(p, (-4 * n, ((5 * n, 1),))))
                self.assert_row(("times", p, 3, n), 3, self.with_form(p, (6 * n, ())))
            for q in range(4):
                self.assert_row(("times", p, q, 0), 3, self.with_form(p, (0, ())))

    def test_jump(self):
        for t in range(9):
            self.assert_row(("jump", t), t, FORMS)

    def test_take_and_tell_are_not_silent(self):
        for p in range(4):
            self.assert_not_silent(("take", p))
            self.assert_not_silent(("tell", p))
            self.assert_not_silent(("tell", p), (num(0),) * 4)
            self.assert_not_silent(("take", p), (num(0),) * 4)

    def test_zero_with_a_plain_form(self):
        for t in range(9):
            for p in range(4):
                self.assert_row(("zero", p, t), t, self.with_form(p, num(0)), self.with_form(p, num(0)))
                for n in (1, -1, 10, GREATEST, -GREATEST):
                    self.assert_row(("zero", p, t), 3, self.with_form(p, num(n)), self.with_form(p, num(n)))

    def test_below_with_a_plain_form(self):
        for t in range(9):
            for p in range(4):
                for n in (-1, -10, -GREATEST):
                    self.assert_row(("below", p, t), t, self.with_form(p, num(n)), self.with_form(p, num(n)))
                for n in (0, 1, 10, GREATEST):
                    self.assert_row(("below", p, t), 3, self.with_form(p, num(n)), self.with_form(p, num(n)))

    def test_zero_and_below_with_a_form_that_is_not_plain(self):
        for name in ("zero", "below"):
            for t in range(9):
                for p in range(4):
                    for form in (word(0), word(2), X, Y, Z, (0, ((-3, 1),)), (-1, ((1, 0), (1, 1))),
                                 (GREATEST, ((1, 0),)), (-GREATEST, ((1, 0),))):
                        forms = [num(0), num(-1), num(1), num(-1)]
                        forms[p] = form
                        self.assert_not_silent((name, p, t), forms)

    def test_other_boxes_do_not_count(self):
        self.assert_row(("zero", 3, 7), 7, (X, Y, Z, num(0)), (X, Y, Z, num(0)))
        self.assert_not_silent(("zero", 0, 7), (X, num(0), num(0), num(0)))
        self.assert_not_silent(("below", 1, 7), (num(-1), Y, num(-1), num(-1)))


class CallsAndBacks(PaperCase):
    PROGRAM = [
        (0, 3, [("call", 2, 1, (1, 0)), ("tell", 0), ("call", 0, 0, ()), ("call", 1, 2, (2, 2, 0, 2)), ("back", 1)]),
        (2, 4, [("tell", 0), ("call", 3, 1, (3, 0)), ("call", 0, 0, ()), ("back", 2)]),
        (4, 4, [("back", 3), ("back", 0)]),
    ]

    def test_a_call(self):
        forms = (X, Y, num(5))
        self.assert_silent(self.PROGRAM, [(0, 0, forms)], [(0, 0, forms), (1, 0, (Y, X, num(0), num(0)))])
        self.assert_silent(self.PROGRAM, [(0, 2, forms)], [(0, 2, forms), (0, 0, (num(0),) * 3)])
        self.assert_silent(self.PROGRAM, [(0, 3, forms)], [(0, 3, forms), (2, 0, (num(5), num(5), X, num(5)))])

    def test_calls_of_one_to_four_sign_frames(self):
        chain = [(0, 0, (X, Y, Z)), (1, 1, FORMS), (1, 1, (Z, Z, Y, X)), (1, 1, (num(1), word(2), num(0), Z))]
        after = [(1, 0, (Y, X, num(0), num(0))), (1, 0, (num(6), X, num(0), num(0))), (1, 0, (X, Z, num(0), num(0)))]
        for many in (1, 2, 3):
            self.assert_silent(self.PROGRAM, chain[:many], chain[:many] + [after[many - 1]])
        self.assert_silent(self.PROGRAM, chain, None)

    def test_calls_of_def_0(self):
        chain = [(0, 2, (X, Y, Z)), (0, 2, (Y, Y, Y)), (0, 2, (X, num(0), Y)), (0, 2, (Z, Z, Z))]
        for many in (1, 2, 3):
            self.assert_silent(self.PROGRAM, chain[:many], chain[:many] + [(0, 0, (num(0),) * 3)])
        self.assert_silent(self.PROGRAM, chain, None)

    def test_a_back_of_one_sign_frame(self):
        for forms in ((X, Y, Z), (num(0),) * 3, (word(0), word(1), word(2))):
            self.assert_silent(self.PROGRAM, [(0, 4, forms)], None)
        self.assert_silent(self.PROGRAM, [(1, 3, FORMS)], None)
        self.assert_silent(self.PROGRAM, [(2, 0, FORMS)], None)

    def test_a_back_of_two_sign_frames(self):
        forms = (X, Y, num(5))
        self.assert_silent(self.PROGRAM, [(0, 0, forms), (1, 3, FORMS)], [(0, 1, (X, Y, Z))])
        self.assert_silent(self.PROGRAM, [(0, 2, forms), (0, 4, (Z, num(1), X))], [(0, 3, (num(1), Y, num(5)))])
        self.assert_silent(self.PROGRAM, [(0, 3, forms), (2, 0, (X, X, X, Z))], [(0, 4, (X, Z, num(5)))])
        self.assert_silent(self.PROGRAM, [(0, 3, forms), (2, 1, (Z, X, X, Y))], [(0, 4, (X, Z, num(5)))])

    def test_backs_of_more_sign_frames(self):
        three = [(0, 0, (X, Y, Z)), (1, 1, FORMS), (1, 3, (Z, Z, Y, X))]
        self.assert_silent(self.PROGRAM, three, [(0, 0, (X, Y, Z)), (1, 2, (X, Y, Z, Y))])
        four = [(0, 0, (X, Y, Z)), (1, 1, FORMS), (1, 2, (Z, Z, Y, X)), (0, 4, (num(1), num(-8), num(3)))]
        self.assert_silent(self.PROGRAM, four, [(0, 0, (X, Y, Z)), (1, 1, FORMS), (1, 3, (num(-8), Z, Y, X))])

    def test_there_and_back(self):
        frames = [(0, 3, (X, Y, Z))]
        behind = silent(self.PROGRAM, frames)
        self.assertEqual(silent(self.PROGRAM, behind), [(0, 4, (X, Z, Z))])
        self.assertEqual(behind, [(0, 3, (X, Y, Z)), (2, 0, (Z, Z, X, Z))])

    def test_the_least_and_the_greatest_def(self):
        program = [(0, 1, [("call", 0, 1, ()), ("back", 0)]), (0, 8, [("back", 7)])]
        self.assert_silent(program, [(0, 0, (X,))], [(0, 0, (X,)), (1, 0, (num(0),) * 8)])
        self.assert_silent(program, [(0, 0, (X,)), (1, 0, tuple(word(w) for w in range(8)))], [(0, 1, (word(7),))])


class Great(PaperCase):
    def test_numbers_of_three_hundred_figures(self):
        form = (GREATEST, ((-GREATEST, 0), (GREATEST, 39)))
        rows = [("plus", 0, 0, 0), ("times", 0, 0, -99), ("less", 1, 1, 0), ("back", 0)]
        program = [(0, 2, rows)]
        twice = (2 * GREATEST, ((-2 * GREATEST, 0), (2 * GREATEST, 39)))
        self.assert_silent(program, [(0, 0, (form, num(1)))], [(0, 1, (twice, num(1)))])
        more = (-99 * GREATEST, ((99 * GREATEST, 0), (-99 * GREATEST, 39)))
        self.assert_silent(program, [(0, 1, (form, num(1)))], [(0, 2, (more, num(1)))])
        less = (1 - GREATEST, ((GREATEST, 0), (-GREATEST, 39)))
        self.assert_silent(program, [(0, 2, (form, num(1)))], [(0, 3, (form, less))])

    def test_forms_of_forty_words(self):
        one = (3, tuple((w + 1, w) for w in range(40)))
        other = (-3, tuple((w - 20, w) for w in range(40) if w != 20))
        program = [(0, 2, [("plus", 0, 0, 1), ("less", 0, 0, 0), ("back", 0)])]
        both = (0, tuple((2 * w - 19, w) for w in range(40)))
        self.assert_silent(program, [(0, 0, (one, other))], [(0, 1, (both, other))])
        self.assert_silent(program, [(0, 1, (one, other))], [(0, 2, (num(0), other))])

    def test_numbers_that_grow(self):
        program = [(0, 1, [("times", 0, 0, 99), ("jump", 0)])]
        frames = [(0, 0, ((1, ((1, 0),)),))]
        for time in range(400):
            frames = silent(program, frames)
        self.assertEqual(frames, [(0, 0, ((99 ** 200, ((99 ** 200, 0),)),))])


def random_row(rng, boxes, count, takes):
    box = lambda: rng.randrange(boxes)
    name = rng.choice(WORDS + ("call", "call"))
    if name == "call":
        f = rng.randrange(len(takes))
        return (name, box(), f, tuple(box() for k in range(takes[f])))
    if name == "put":
        return (name, box(), rng.choice([0, 1, -1, rng.randint(-10 ** 60, 10 ** 60)]))
    if name == "times":
        return (name, box(), box(), rng.choice([0, 1, -1, rng.randint(-99, 99)]))
    if name == "jump":
        return (name, rng.randrange(count))
    if name in ("zero", "below"):
        return (name, box(), rng.randrange(count))
    return (name, *[box() for k in range({"copy": 2, "plus": 3, "less": 3}.get(name, 1))])


def random_program(rng):
    boxes = [rng.randint(1, 8) for k in range(rng.randint(1, 4))]
    takes = [0] + [rng.randint(0, min(4, many)) for many in boxes[1:]]
    program = []
    for f, many in enumerate(boxes):
        count = rng.randint(1, 14)
        rows = [random_row(rng, many, count, takes) for at in range(count - 1)]
        last = rng.choice([("back", rng.randrange(many)), ("jump", rng.randrange(count))])
        program.append((takes[f], many, rows + [last]))
    return program


def random_form(rng):
    if rng.random() < 0.5:
        return num(rng.choice([0, 0, 1, -1, rng.randint(-GREATEST, GREATEST)]))
    words = sorted(rng.sample(range(6), rng.randint(1, 3)))
    return (rng.randint(-2, 2), tuple((rng.choice([-2, -1, 1, 2, GREATEST]), w) for w in words))


def random_frames(rng, program):
    """One to four sign frames, each but the last one at a call of the next one's def."""
    f = rng.randrange(len(program))
    frames = []
    for depth in range(rng.randint(0, 3)):
        calls = [at for at, row in enumerate(program[f][2]) if row[0] == "call"]
        if calls:
            at = rng.choice(calls)
            frames.append((f, at, tuple(random_form(rng) for p in range(program[f][1]))))
            f = program[f][2][at][2]
    at = rng.randrange(len(program[f][2]))
    return frames + [(f, at, tuple(random_form(rng) for p in range(program[f][1])))]


def is_silent(row, frames):
    if row[0] in ("zero", "below"):
        return frames[-1][2][row[1]][1] == ()
    if row[0] == "call":
        return len(frames) < 4
    if row[0] == "back":
        return len(frames) > 1
    return row[0] not in ("take", "tell")


class Any(PaperCase):
    def test_what_silent_rows_do_is_what_plain_rows_do(self):
        rng = random.Random(14)
        seen = {}
        for time in range(6000):
            program = random_program(rng)
            frames = random_frames(rng, program)
            f, at, forms = frames[-1]
            row = program[f][2][at]
            key = (row[0], is_silent(row, frames))
            seen[key] = seen.get(key, 0) + 1
            told = silent(program, frames)
            if not is_silent(row, frames):
                self.assertIsNone(told)
                continue
            self.assert_silent(program, frames, told)
            for trial in range(3):
                words = [rng.randint(-10 ** 30, 10 ** 30) for w in range(6)]
                self.assertEqual(worths(told, words), gone_plainly(program, worths(frames, words)))
        either = ("zero", "below", "call", "back")
        both = [(name, truth) for name in either for truth in (True, False)]
        others = [(name, name not in ("take", "tell")) for name in WORDS if name not in either]
        self.assertEqual(set(seen), set(both + others))
        self.assertGreater(min(seen.values()), 15)


class Doors(unittest.TestCase):
    PROGRAM = [
        (0, 3, [("put", 0, 1), ("call", 0, 0, ()), ("call", 1, 1, (2,)), ("back", 0)]),
        (1, 1, [("tell", 0), ("back", 0)]),
        (0, 8, [("tell", 7), ("jump", 0)]),
    ]
    WORDS = (word(0), word(1), word(2))

    def assert_door(self, stand, expected):
        before = copy.deepcopy((self.PROGRAM, stand))
        self.assertIs(is_door(self.PROGRAM, stand), expected, stand)
        self.assertEqual((self.PROGRAM, stand), before)

    def test_doors(self):
        for f, (takes, boxes, rows) in enumerate(self.PROGRAM):
            for at in range(len(rows)):
                forms = tuple(word(w) for w in range(boxes))
                for deed in (("leave",), ("go", (0, forms, 0)), ("hold", 0, 5, (1, forms, 1))):
                    self.assert_door((boxes, [(f, at, forms)], deed), True)
        self.assert_door((1, [(1, 0, (word(0),))], ("tell", (0, (word(0),), 0))), True)

    def test_two_and_more_sign_frames(self):
        frame = (0, 1, self.WORDS)
        self.assert_door((3, [frame], ("leave",)), True)
        for many in (2, 3, 4):
            self.assert_door((3, [frame] * many, ("leave",)), False)
        six = tuple(word(w) for w in range(3, 6))
        self.assert_door((6, [frame, (0, 0, six)], ("leave",)), False)
        self.assert_door((6, [(0, 1, six), frame], ("leave",)), False)
        self.assert_door((3, [(0, 2, self.WORDS), (1, 0, (word(0),))], ("leave",)), False)
        self.assert_door((1, [(0, 2, (num(0), num(0), word(0))), (1, 0, (word(0),))], ("leave",)), False)

    def test_forms_in_another_order(self):
        for order in ((0, 2, 1), (1, 0, 2), (1, 2, 0), (2, 0, 1), (2, 1, 0), (0, 0, 0), (0, 1, 1), (2, 2, 2),
                      (0, 1, 0)):
            self.assert_door((3, [(0, 0, tuple(word(w) for w in order))], ("leave",)), False)

    def test_many_other_than_the_boxes(self):
        for many in range(3, 41):
            self.assert_door((many, [(0, 0, self.WORDS)], ("leave",)), many == 3)
        for many in range(1, 41):
            self.assert_door((many, [(1, 1, (word(0),))], ("leave",)), many == 1)
        for many in range(8, 41):
            self.assert_door((many, [(2, 1, tuple(word(w) for w in range(8)))], ("leave",)), many == 8)

    def test_words_that_begin_later(self):
        self.assert_door((4, [(0, 0, (word(1), word(2), word(3)))], ("leave",)), False)
        self.assert_door((2, [(1, 0, (word(1),))], ("leave",)), False)
        self.assert_door((4, [(0, 0, (word(0), word(1), word(3)))], ("leave",)), False)

    def test_forms_that_are_not_just_the_words(self):
        for p in range(3):
            for form in (num(0), num(1), num(p), (1, ((1, p),)), (-1, ((1, p),)), (0, ((2, p),)), (0, ((-1, p),)),
                         (0, ((1, 0), (1, 1))), (0, ((1, 0), (1, 1), (1, 2))), (0, ((1, 1), (-1, 2)))):
                forms = list(self.WORDS)
                forms[p] = form
                self.assert_door((3, [(0, 3, tuple(forms))], ("leave",)), False)
        self.assert_door((3, [(0, 3, (num(0), num(1), num(2)))], ("leave",)), False)
        self.assert_door((0, [(0, 3, (num(0), num(0), num(0)))], ("leave",)), False)
        self.assert_door((0, [(1, 1, (num(0),))], ("leave",)), False)

    def test_the_last_box_counts_too(self):
        forms = [word(w) for w in range(8)]
        self.assert_door((8, [(2, 0, tuple(forms))], ("leave",)), True)
        forms[7] = (1, ((1, 7),))
        self.assert_door((8, [(2, 0, tuple(forms))], ("leave",)), False)


if __name__ == "__main__":
    unittest.main()

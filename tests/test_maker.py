"""Points 2, 3 and 25: lanes that the maker makes."""

import copy
import random
import unittest

from midlanes.books import read_lane, shown_lane
from midlanes.hand import run
from midlanes.judge import fault
from midlanes.maker import made
from midlanes.papers import is_door
from midlanes.rides import ride
from midlanes.rows import formed

from helpers import LOOP, MAIN, edges_of, lists_in, random_program, words

GREATEST = 10 ** 60 - 1
ALL_WORDS = {"put", "copy", "plus", "less", "times", "take", "tell", "jump", "zero", "below", "call", "back"}

# All twelve words, calls of one another and of themselves.
TWELVE = [
    (0, 4, [("put", 0, 3), ("take", 1), ("zero", 1, 9), ("below", 1, 7), ("call", 2, 1, (0, 1)), ("plus", 3, 3, 2),
            ("jump", 1), ("times", 1, 1, -1), ("jump", 4), ("tell", 3), ("copy", 0, 3), ("call", 0, 2, ()),
            ("back", 0)]),
    (2, 3, [("less", 2, 0, 1), ("below", 2, 4), ("call", 2, 1, (2, 1)), ("back", 2), ("tell", 2), ("back", 0)]),
    (0, 2, [("plus", 1, 1, 0), ("put", 0, 2), ("call", 0, 2, ()), ("back", 1)]),
]
# Rounds without an end, silent ones and others.
ROUNDS = [
    [(0, 1, [("jump", 0)])],
    [(0, 2, [("zero", 0, 0), ("below", 0, 0), ("jump", 0)])],
    [(0, 3, [("plus", 0, 0, 1), ("less", 2, 2, 0), ("jump", 0)])],
    [(0, 2, [("put", 0, 40), ("less", 0, 0, 1), ("zero", 0, 4), ("jump", 1), ("tell", 1), ("jump", 0)])],
    [(0, 2, [("put", 1, 1), ("less", 0, 0, 1), ("below", 0, 4), ("jump", 1), ("plus", 0, 0, 1), ("jump", 4)])],
]
# Rounds that reckon greater and greater numbers.
GROWING = [
    [(0, 1, [("times", 0, 0, 99)] * 29 + [("jump", 0)])],
    [(0, 2, [("times", 0, 0, -99), ("times", 1, 0, 99), ("plus", 0, 0, 1)] * 9 + [("tell", 0), ("jump", 0)])],
    [(0, 2, [("put", 0, GREATEST), ("put", 1, -GREATEST)] + [("times", 0, 0, 99), ("less", 1, 1, 0)] * 12
      + [("zero", 1, 0), ("jump", 2)])],
    [(0, 2, [("call", 0, 1, (0, 1)), ("jump", 0)]),
     (2, 2, [("times", 0, 0, 99)] * 14 + [("times", 1, 1, 98)] * 13 + [("plus", 0, 0, 1), ("back", 0)])],
]
# Calls of calls of calls, and one too many.
NESTED = [(0, 1, [("call", 0, 1, (0,)), ("tell", 0), ("back", 0)])] + [
    (1, 8, [("plus", 1, 0, 0), ("call", 2, f, (1,)), ("tell", 2), ("back", 1)]) for f in (2, 3, 4, 5)
] + [(1, 1, [("tell", 0), ("back", 0)])]


def numbers_in(thing):
    if isinstance(thing, (list, tuple)):
        return [n for part in thing for n in numbers_in(part)]
    return [thing] if isinstance(thing, int) else []


def taking_first(boxes, body, at):
    """A def's rows that take a number for each box first and go on at the body's row; and that row's number there."""
    ahead = boxes + 1
    rows = []
    for row in body:
        if row[0] == "jump":
            row = ("jump", row[1] + ahead)
        elif row[0] in ("zero", "below"):
            row = row[:2] + (row[2] + ahead,)
        rows.append(row)
    return [("take", p) for p in range(boxes)] + [("jump", at + ahead)] + rows, at + ahead


class MakerCase(unittest.TestCase):
    def assert_made(self, program, f, at, known, most):
        before = copy.deepcopy((program, known))
        lane = made(program, f, at, known, most)
        self.assertEqual((program, known), before)
        self.assertIs(type(lane), list)
        self.assertIsNone(fault(program, lane), f"{program} {f} {at} {known} {most}\n{lane}")
        self.assertEqual(lane[0][:2], (program[f][1], [(f, at, words(program[f][1]))]))
        self.assertTrue(is_door(program, lane[0]))
        self.assert_holds(lane, known)
        self.assert_stands(program, lane, most)
        self.assert_come_to(lane)
        lists = lists_in(lane)
        self.assertEqual(len(lists), len(lane) + 1)
        self.assertEqual(len({id(one) for one in lists}), len(lists))
        self.assertLess(max(abs(n) for n in numbers_in(lane)), 10 ** 300)
        return lane

    def assert_holds(self, lane, known):
        """There are as many holds as known numbers, and only edges of no rows lead to them."""
        holds = [k for k, stand in enumerate(lane) if stand[2][0] == "hold"]
        self.assertEqual(len(holds), len(known))
        self.assertEqual(sorted(lane[k][2][2] for k in holds), sorted(n for p, n in known))
        reached = self.reached(lane, lambda deed, edge: edge[0] == 0 and deed[0] in ("go", "hold"))
        for k in holds:
            self.assertIn(k, reached)
        for many, paper, deed in lane:
            for rows, moves, k in edges_of(deed):
                if k in holds:
                    self.assertEqual((deed[0], rows), ("hold", 0))

    def assert_stands(self, program, lane, most):
        going = [stand for stand in lane if stand[2][0] not in ("hold", "leave")]
        self.assertLessEqual(len(going), most)
        for many, paper, deed in going:
            for rows, moves, k in edges_of(deed):
                self.assertGreaterEqual(rows + (deed[0] in ("test", "tell", "take")), 1)
        for many, paper, deed in lane:
            if deed == ("leave",) and len(going) < most:
                row = program[paper[-1][0]][2][paper[-1][1]]
                self.assertIn((row[0], len(paper)), (("back", 1), ("call", 4)))

    def reached(self, lane, goes=lambda deed, edge: True):
        found = [0]
        for k in found:
            deed = lane[k][2]
            found += {edge[2] for edge in edges_of(deed) if goes(deed, edge)} - set(found)
        return found

    def assert_come_to(self, lane):
        self.assertEqual(sorted(self.reached(lane)), list(range(len(lane))))

    def assert_made_everywhere(self, program, knowns, bounds):
        self.assertTrue(formed(program))
        for f, (takes, boxes, rows) in enumerate(program):
            for at in range(len(rows)):
                for known in knowns(boxes):
                    for most in bounds:
                        self.assert_made(program, f, at, known, most)


def some_knowns(boxes):
    """No known numbers, some, and all boxes."""
    return [[], [(0, 0)], [(boxes - 1, -7)], [(p, p + 1) for p in range(0, boxes, 2)],
            [(p, 0) for p in range(boxes)], [(p, (-1) ** p * GREATEST) for p in range(boxes)]]


class EachPlace(MakerCase):
    def test_all_twelve_words(self):
        self.assertEqual({row[0] for one in TWELVE for row in one[2]}, ALL_WORDS)
        self.assert_made_everywhere(TWELVE, some_knowns, range(1, 31))

    def test_other_programs(self):
        for program in [MAIN, LOOP, NESTED] + ROUNDS:
            self.assert_made_everywhere(program, some_knowns, (1, 2, 3, 5, 10, 20, 29, 30))

    def test_any_programs(self):
        rng = random.Random(41)
        for time in range(250):
            program = random_program(rng)
            knowns = lambda boxes: [[(p, rng.choice([0, 1, -1, 6, rng.randint(-GREATEST, GREATEST)]))
                                     for p in range(boxes) if rng.random() < rng.choice([0, 0.5, 1])]]
            self.assert_made_everywhere(program, knowns, (rng.randint(1, 30), rng.choice([1, 2, 20, 30])))

    def test_great_programs(self):
        rng = random.Random(42)
        for time in range(6):
            boxes = 8
            program = [(0 if f == 0 else 4, boxes, [self.great_row(rng, boxes) for at in range(29)] + [("jump", 0)])
                       for f in range(6)]
            self.assertTrue(formed(program))
            for f in range(6):
                for at in rng.sample(range(30), 4):
                    known = [(p, rng.randint(-2, 2)) for p in range(boxes) if rng.random() < 0.5]
                    self.assert_made(program, f, at, known, 30)
                    self.assert_made(program, f, at, [], 30)

    def great_row(self, rng, boxes):
        p, q, r = (rng.randrange(boxes) for k in range(3))
        return rng.choice([("plus", p, q, r), ("less", p, q, r), ("times", p, q, rng.randint(-99, 99)), ("copy", p, q),
                           ("put", p, rng.randint(-3, 3)), ("zero", p, rng.randrange(30)),
                           ("below", p, rng.randrange(30)), ("call", p, rng.randint(1, 5), (q, r, p, q)), ("back", p),
                           ("take", p), ("tell", q), ("jump", rng.randrange(30))])


class Great(MakerCase):
    def test_rounds_that_reckon_greater_and_greater_numbers(self):
        for program in GROWING:
            self.assert_made_everywhere(program, some_knowns, (1, 4, 20, 30))

    def test_such_lanes_can_be_written(self):
        for program in GROWING:
            for known in some_knowns(program[0][1]):
                lane = made(program, 0, 0, known, 20)
                self.assertEqual(read_lane(shown_lane(lane)), lane)

    def test_rides_of_such_lanes(self):
        for program in GROWING:
            for known in ([], [(0, 0)]):
                lane = made(program, 0, 0, known, 20)
                for most in (1, 30, 200, 400):
                    told = ride(program, lane, [], most, [True])
                    self.assertEqual(told[:3], run(program, [], most))
                    self.assertEqual(told[3][0], ("over", 0, 0))


class Falls(MakerCase):
    def assert_falls(self, boxes, body, at, numbers, known, most, inputs):
        """Led over with these numbers in the boxes the run falls just where a known box has another number."""
        rows, place = taking_first(boxes, body, at)
        program = [(0, boxes, rows)] + TWELVE[1:]
        self.assertTrue(formed(program))
        lane = self.assert_made(program, 0, place, known, most)
        told = ride(program, lane, numbers + inputs, 200, [True])
        self.assertEqual(told[:3], run(program, numbers + inputs, 200))
        self.assertEqual(told[3][0], ("over", 0, boxes + 1))
        if all(numbers[p] == n for p, n in known):
            self.assertNotIn("fall", [one[0] for one in told[3]])
        else:
            self.assertEqual((told[3][1][0], told[3][1][2]), ("fall", boxes + 1))
            self.assertEqual(lane[told[3][1][1]][2][0], "hold")
        # Whoever is led over wherever else does not fall but at the holds, and ahead of any row.
        told = ride(program, lane, numbers + inputs, 200, [True, False, False] * 99)
        for one, other in zip(told[3], told[3][1:]):
            if other[0] == "fall":
                self.assertEqual((one[0], one[2]), ("over", other[2]))

    def test_right_and_wrong_numbers(self):
        body = TWELVE[0][2]
        for at in range(len(body)):
            for numbers in ([0, 0, 0, 0], [3, -1, 4, 1], [GREATEST, -GREATEST, 1, 0]):
                knowns = [[], [(p, n) for p, n in enumerate(numbers)], [(0, numbers[0]), (3, numbers[3])]]
                for p in range(4):
                    for other in (numbers[p] + 1, -numbers[p] or 5):
                        knowns.append([(p, other)])
                        knowns.append([(q, other if q == p else n) for q, n in enumerate(numbers)])
                for known in knowns:
                    self.assert_falls(4, body, at, numbers, known, 20, [2, -1, 0])

    def test_any_numbers(self):
        rng = random.Random(43)
        for time in range(300):
            program = random_program(rng)
            boxes = program[0][1]
            body = [("tell", row[1]) if row[0] == "call" else row for row in program[0][2]]
            numbers = [rng.randint(-2, 2) for p in range(boxes)]
            known = [(p, rng.choice([numbers[p]] * 4 + [1])) for p in range(boxes) if rng.random() < 0.7]
            inputs = [rng.randint(-2, 2) for k in range(6)]
            self.assert_falls(boxes, body, rng.randrange(len(body)), numbers, known, rng.randint(1, 30), inputs)


class Left(MakerCase):
    def test_at_the_last_row_of_the_def(self):
        program = [(0, 2, [("take", 0), ("tell", 0), ("plus", 1, 1, 0), ("zero", 0, 5), ("jump", 0), ("back", 1)])]
        for at in range(6):
            lane = self.assert_made(program, 0, at, [], 30)
            self.assertEqual([stand[1][0][1] for stand in lane if stand[2][0] == "leave"], [5])
        self.assertEqual(ride(program, made(program, 0, 0, [], 30), [4, 5, 0], 100, [True]),
                         (("back", 9), [4, 5, 0], 14, [("over", 0, 0), ("leave", self.leave(program), 14)]))

    def leave(self, program):
        return [k for k, stand in enumerate(made(program, 0, 0, [], 30)) if stand[2][0] == "leave"][0]

    def test_at_a_back_at_once(self):
        program = [(0, 2, [("back", 1)])]
        self.assertEqual(made(program, 0, 0, [], 5), [(2, [(0, 0, words(2))], ("leave",))])
        lane = self.assert_made(program, 0, 0, [(0, 4), (1, 5)], 1)
        self.assertEqual([stand[2][0] for stand in lane], ["hold", "hold", "leave"])

    def test_at_calls_five_deep(self):
        for most in (1, 2, 3, 4, 5, 30):
            lane = self.assert_made(NESTED, 0, 0, [], most)
        self.assertEqual([len(stand[1]) for stand in lane if stand[2][0] == "leave"], [4])
        lane = self.assert_made(NESTED, 3, 0, [(0, 7)], 30)
        self.assertEqual([(len(stand[1]), stand[1][0][:2]) for stand in lane if stand[2][0] == "leave"], [(1, (3, 3))])

    def test_where_the_bound_is_met(self):
        program = [(0, 1, [("tell", 0)] * 29 + [("back", 0)])]
        for most in range(1, 31):
            lane = self.assert_made(program, 0, 0, [], most)
            self.assertEqual([stand[2][0] for stand in lane], ["tell"] * min(most, 29) + ["leave"])
            self.assertEqual(lane[-1][1][0][1], min(most, 29))

    def test_rounds_with_a_known_number_that_changes_are_closed(self):
        program = [(0, 2, [("put", 1, 1), ("tell", 0), ("plus", 0, 0, 1), ("jump", 1)])]
        lane = self.assert_made(program, 0, 0, [(0, 0), (1, 0)], 20)
        told = ride(program, lane, [], 400, [True])
        self.assertEqual(told[:3], run(program, [], 400))
        self.assertEqual([one[0] for one in told[3]], ["over", "short"])

    def test_rounds_are_gone_without_being_left(self):
        for program in ROUNDS[:3]:
            lane = made(program, 0, 0, [], 30)
            told = ride(program, lane, [], 400, [True])
            self.assertEqual(told[:3], run(program, [], 400))
            self.assertEqual([one[0] for one in told[3]], ["over", "short"])


class Twice(MakerCase):
    def test_made_twice(self):
        for f, (takes, boxes, rows) in enumerate(TWELVE):
            for known in some_knowns(boxes):
                first = made(TWELVE, f, 1, known, 12)
                again = made(TWELVE, f, 1, known, 12)
                self.assertEqual(first, again)
                self.assertFalse({id(one) for one in lists_in(first)} & {id(one) for one in lists_in(again)})
                first[0][1].clear()
                first.pop()
                self.assertEqual(made(TWELVE, f, 1, known, 12), again)

    def test_for_like_programs(self):
        self.assertEqual(made(TWELVE, 0, 1, [(0, 3)], 12), made(copy.deepcopy(TWELVE), 0, 1, [(0, 3)], 12))


if __name__ == "__main__":
    unittest.main()

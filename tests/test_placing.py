"""Point 17: programs that are extended by saves, and the best positions for them."""

import itertools
import random
import unittest
from unittest.mock import ANY

from tests.reference import (
    ODD, TOTAL, ZERO, Hostile, end, groupings_of, guarded_program, place_losses, random_program, renamed, some_inputs,
    with_saves,
)
from tests.test_deciding import BAD_INPUTS, BAD_LOSSES
from tests.test_plans import BAD_PLANS
from tornsaves.deciding import loss_of
from tornsaves.errors import InvalidNumber, InvalidPlan, InvalidPositions, InvalidProgram, NotInput, TooLarge
from tornsaves.evidence import Evidence
from tornsaves.placing import Placed, best_positions, extended
from tornsaves.programs import is_program

BARE = (TOTAL[0], TOTAL[1][1:-2] + (("if", "t", 0), ("stop", "s")))
# Three stages, the first two of which end with a flag.
STAGES = (("q", "p", "r"), (
    ("if", "q", 8), ("if", "p", 5), ("copy", "r", "r"), ("copy", "r", "r"), ("set", "p", 1), ("copy", "r", "r"),
    ("copy", "r", "r"), ("set", "q", 1), ("copy", "r", "r"), ("copy", "r", "r"), ("stop", "p"),
))
JUMPS = (("a", "b"), (("go", 2), ("if", "b", 1), ("if", "a", 0), ("set", "a", 3), ("if", "b", 4), ("stop", "a")))
LONGEST = (("a", "b"), (("set", "b", 1), ("add", "a", "a", "b"), *[("copy", "b", "b")] * 10, ("if", "a", 0), ("stop", "a")))
TOO_LONG = (("a",), (*[("copy", "a", "a")] * 14, ("stop", "a")))
SAVED_AND_LONG = (("a",), (("save",), *TOO_LONG[1][1:]))
# Arguments of `random_program`, the groups, and the number of inputs: programs with positions that suffice.
CHOSEN = [
    ((949, 2, 8, 0), (("z", "b"),), 2), ((667, 1, 8, 0), (("z",),), 2), ((471, 1, 8, 0), (("z",),), 2),
    ((2053, 2, 9, 0), (("z",), ("b",)), 2), ((51, 2, 7, 0), (("z",),), 1), ((235, 2, 9, 0), (("z",), ("b",)), 1),
    ((2140, 4, 8, 0), (("z", "b", "a"),), 2), ((2541, 4, 7, 0), (("b",), ("z", "yy")), 2),
]


def all_cases():
    """Programs, groups, inputs."""
    yield BARE, (("i", "s"),), [ZERO]
    yield BARE, (("i",), ("s",)), [ZERO]
    yield BARE, (("i", "s"), ("t",)), [(2, 0, 1), ZERO]
    for groups in [(("q", "p"),), (("q",), ("p",)), (("p",), ("q",)), (("q", "p"), ("r",)), (("p",),), ()]:
        yield STAGES, groups, [ZERO]
    yield STAGES, (("q", "p"),), [ZERO, (0, 1, 0), (1, 1, 0)]
    for row, groups, many in CHOSEN:
        program = renamed(random_program(*row))
        yield program, groups, some_inputs(program, many)
    for seed in range(150):
        source = random.Random(seed)
        program = random_program(seed, 1 + seed % 4, 4 + seed % 5, 0) if seed % 3 else guarded_program(seed, 3, 2, 0)
        inputs = some_inputs(program, 1 + seed % 2)
        if inputs:
            program = renamed(program)
            yield program, source.choice(sorted(groupings_of(program[0]), key=repr)), inputs


CASES = [(*case, place_losses(*case)) for case in all_cases()]


class Extended(unittest.TestCase):
    def test_no_positions(self):
        for program in (BARE, STAGES, JUMPS, LONGEST):
            self.assertEqual(extended(program), program)

    def test_the_example_of_the_document(self):
        self.assertEqual(extended(BARE, 0), TOTAL)

    def test_jumps_lead_to_the_saves(self):
        for positions, rows in [
            ((0,), ["s", ("go", 3), ("if", "b", 2), ("if", "a", 0), 3, ("if", "b", 5), 5]),
            ((1,), [("go", 3), "s", ("if", "b", 1), ("if", "a", 0), 3, ("if", "b", 5), 5]),
            ((2,), [("go", 2), ("if", "b", 1), "s", ("if", "a", 0), 3, ("if", "b", 5), 5]),
            ((3,), [("go", 2), ("if", "b", 1), ("if", "a", 0), "s", 3, ("if", "b", 5), 5]),
            ((4,), [("go", 2), ("if", "b", 1), ("if", "a", 0), 3, "s", ("if", "b", 4), 5]),
            ((5,), [("go", 2), ("if", "b", 1), ("if", "a", 0), 3, ("if", "b", 4), "s", 5]),
            ((0, 2), ["s", ("go", 3), ("if", "b", 2), "s", ("if", "a", 0), 3, ("if", "b", 6), 5]),
            ((1, 4), [("go", 3), "s", ("if", "b", 1), ("if", "a", 0), 3, "s", ("if", "b", 5), 5]),
            ((3, 4), [("go", 2), ("if", "b", 1), ("if", "a", 0), "s", 3, "s", ("if", "b", 5), 5]),
        ]:
            steps = tuple(("save",) if row == "s" else JUMPS[1][row] if isinstance(row, int) else row for row in rows)
            self.assertEqual(extended(JUMPS, *positions), (JUMPS[0], steps), positions)

    def test_all_positions(self):
        for program in [BARE, STAGES, JUMPS, LONGEST] + [case[0] for case in CASES[10::4]]:
            many = len(program[1])
            for size in range(3):
                for positions in itertools.combinations(range(many), size):
                    longer = extended(program, *positions)
                    self.assertTrue(is_program(longer))
                    self.assertEqual(longer, with_saves(program, positions))
                    for value in some_inputs(program, 2):
                        self.assertEqual(end(longer, 0, value)[0], end(program, 0, value)[0])

    def test_longest_program(self):
        self.assertEqual(len(LONGEST[1]), 14)
        longer = extended(LONGEST, 0, 13)
        self.assertEqual(longer[1][0], ("save",))
        self.assertEqual(longer[1][13:], (("if", "a", 0), ("save",), ("stop", "a")))


class BestPositions(unittest.TestCase):
    def test_example(self):
        found = best_positions(BARE, (("i", "s"),), [ZERO], loss=8)
        self.assertIsInstance(found, Placed)
        self.assertEqual(found.fields, [(0,), 7])

    def test_no_positions_are_needed(self):
        for groups in [(("i", "s"),), (("i",),), ()]:
            self.assertEqual(best_positions(BARE, groups, [ZERO]), Placed((), 24))
            self.assertEqual(best_positions(BARE, groups, [ZERO], loss=24), Placed((), 24))
        self.assertEqual(best_positions(BARE, (("i", "s"),), [ZERO], loss=23), Placed((0,), 7))
        self.assertEqual(best_positions((("a",), (("stop", "a"),)), (), [(3,)], loss=0), Placed((), 0))

    def test_no_positions_suffice(self):
        for groups, loss in [((("i", "s"),), 5), ((("i",),), 23), ((), 23), ((("i",), ("s",)), 8)]:
            self.assertIsNone(best_positions(BARE, groups, [ZERO], loss=loss))
        self.assertEqual(best_positions(BARE, (("i", "s"),), [ZERO], loss=7), Placed((0,), 7))

    def test_two_positions(self):
        for loss, positions, worst in [
            (10, (), 10), (9, (5,), 8), (8, (5,), 8), (7, (5, 8), 6), (6, (5, 8), 6),
        ]:
            self.assertEqual(best_positions(STAGES, (("q", "p"),), [ZERO], loss=loss).fields, [positions, worst])
        self.assertIsNone(best_positions(STAGES, (("q", "p"),), [ZERO], loss=5))

    def test_the_loss_is_that_of_the_plan(self):
        for program, groups, inputs, rows in CASES:
            for loss in {None, *[max(0, worst - 1) for _, worst in rows if worst is not None]}:
                found = best_positions(program, groups, inputs, loss=loss)
                if found is not None:
                    longer = extended(program, *found.positions)
                    saves = tuple(k for k, step in enumerate(longer[1]) if step == ("save",))
                    self.assertEqual(loss_of(longer, (saves, groups), inputs), found.loss)

    def test_against_the_plain_exploration(self):
        sizes = []
        for program, groups, inputs, rows in CASES:
            worsts = [worst for _, worst in rows if worst is not None]
            for loss in {None, 0, min(worsts), max(0, min(worsts) - 1), *worsts[::3], max(0, rows[0][1] - 1)}:
                good = [row for row in rows if row[1] is not None and (loss is None or row[1] <= loss)]
                found = best_positions(program, groups, inputs, loss=loss)
                self.assertEqual(found, Placed(*good[0]) if good else None)
                sizes.append(len(good[0][0]) if good else None)
        for size, many in [(0, 50), (1, 20), (2, 3), (None, 30)]:
            self.assertGreater(sizes.count(size), many, size)

    def test_long_program(self):
        found = best_positions(LONGEST, (("a",),), [(0, 0)], loss=14)
        self.assertEqual(found, Placed((0,), 14))

    def test_answers_are_new_and_arguments_are_not_changed(self):
        inputs = [ZERO]
        found = best_positions(BARE, (("i", "s"),), inputs, loss=8)
        found.fields.clear()
        self.assertEqual(inputs, [ZERO])
        self.assertEqual(best_positions(BARE, (("i", "s"),), (ZERO,), loss=8).fields, [(0,), 7])


class Answers(unittest.TestCase):
    def test_fields(self):
        answer = Placed((1, 3), 5)
        self.assertIsInstance(answer, Evidence)
        self.assertEqual((answer.positions, answer.loss), ((1, 3), 5))
        answer.fields.clear()
        self.assertEqual(answer.fields, [(1, 3), 5])
        answer.positions, answer.loss = (2,), 0
        self.assertEqual(answer.fields, [(2,), 0])
        self.assertEqual(answer, Placed((2,), 0))
        for other in [Placed((2,), 1), Placed((), 0), Evidence(), [(2,), 0], None]:
            self.assertNotEqual(answer, other)


BAD_POSITIONS = [[value] for value in ODD] + [
    [6], [7], [-1], [True], [False], ["0"], [None], [(0,)], [[0]], [10 ** 30], [0, 0], [3, 3], [1, 0], [5, 2], [0, 6], [0, True],
    [0, None], [-1, 0], [0, -1], [None, 0], [0, 1, 2], [0, 1, 2, 3], [0, 0, 0], [0, 1, None], [0, ANY], [ANY, 0], [Hostile(), 0],
    [0, Hostile()], [(0, 1)], [0, 1, 6],
]


class Errors(unittest.TestCase):
    def test_programs(self):
        for value in ODD + [TOTAL, SAVED_AND_LONG]:
            self.assertRaises(InvalidProgram, extended, value)
            self.assertRaises(InvalidProgram, extended, value, 0)
            self.assertRaises(InvalidProgram, best_positions, value, (), [ZERO])
        self.assertEqual(len(TOO_LONG[1]), 15)
        self.assertRaises(TooLarge, extended, TOO_LONG)
        self.assertRaises(TooLarge, extended, TOO_LONG, 0)
        self.assertRaises(TooLarge, best_positions, TOO_LONG, (), [(0,)])
        self.assertRaises(TooLarge, extended, (("a",), (("copy", "a", "a"),) + TOO_LONG[1]))

    def test_positions(self):
        self.assertEqual(len(JUMPS[1]), 6)
        for value in BAD_POSITIONS:
            self.assertRaises(InvalidPositions, extended, JUMPS, *value)
        self.assertRaises(TypeError, extended, JUMPS, positions=(0,))

    def test_groups(self):
        plans = [plan for plan in BAD_PLANS if isinstance(plan, tuple) and len(plan) == 2]
        wrong = [groups for saves, groups in plans if isinstance(saves, tuple) and saves[:1] == (0,) and groups != ()]
        self.assertGreater(len(wrong), 20)
        letters = (("a", "b", "c"), (("stop", "a"),))
        for value in wrong:
            self.assertRaises(InvalidPlan, best_positions, letters, value, [ZERO])
        for value in ODD:
            if not isinstance(value, tuple) or value:
                self.assertRaises(InvalidPlan, best_positions, BARE, value, [ZERO])

    def test_inputs_and_losses(self):
        for value in BAD_INPUTS:
            self.assertRaises(NotInput, best_positions, BARE, (("i", "s"),), value)
        self.assertRaises(NotInput, best_positions, (("a",), (("if", "a", 0), ("stop", "a"))), (), [(1,)])
        for value in BAD_LOSSES:
            self.assertRaises(InvalidNumber, best_positions, BARE, (("i", "s"),), [ZERO], loss=value)
        self.assertRaises(TypeError, best_positions, BARE, (("i", "s"),), [ZERO], 7)
        for value in (None, 0, 1000000):
            best_positions(BARE, (("i", "s"),), [ZERO], loss=value)

    def test_the_error_documented_first_is_raised(self):
        self.assertRaises(InvalidProgram, extended, None, None)
        self.assertRaises(InvalidProgram, extended, SAVED_AND_LONG, None)
        self.assertRaises(TooLarge, extended, TOO_LONG, None)
        self.assertRaises(InvalidProgram, best_positions, None, None, None, loss=True)
        self.assertRaises(InvalidProgram, best_positions, SAVED_AND_LONG, None, None, loss=True)
        self.assertRaises(TooLarge, best_positions, TOO_LONG, None, None, loss=True)
        self.assertRaises(InvalidPlan, best_positions, BARE, None, None, loss=True)
        self.assertRaises(NotInput, best_positions, BARE, (), None, loss=True)

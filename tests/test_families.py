"""Points 11 and 12: the families of sufficient plans, breaches, and the certificate."""

import unittest

from tests.reference import (
    EMPTY, ODD, TOTAL, WHOLE, ZERO, changed, every_plan, good_plans, has_all, is_bad, key, random_program,
    some_inputs, splittings,
)
from tests.test_deciding import BAD_INPUTS, BAD_LOSSES, ROUND
from tornsaves.errors import InvalidNumber, InvalidProgram, NotInput, TooLarge
from tornsaves.families import Family, breaches, family, finest_plans, minimal_plans, sufficient_plans

FOUR = (("a", "b", "c", "d"), (("save",), ("stop", "a")))
THREE_SAVES = (("a",), (("save",), ("save",), ("save",), ("stop", "a")))
LISTS = [sufficient_plans, minimal_plans, finest_plans, breaches]


# Two pieces of work, each of which a save can make good.
PIECES = (("a", "b"), (
    ("if", "b", 6), ("if", "a", 3), ("set", "a", 1), ("save",), ("copy", "b", "b"), ("set", "b", 1), ("save",), ("stop", "b"),
))
# Arguments of `random_program`, the number of inputs, and a loss: families with much to sort out.
CHOSEN = [
    (65, 3, 10, 2, 2, None), (83, 3, 10, 2, 2, None), (135, 3, 8, 2, 2, None), (171, 3, 8, 2, 2, 6),
    (188, 2, 7, 1, 1, None), (195, 3, 11, 2, 2, 9), (229, 3, 6, 2, 2, None), (251, 3, 10, 2, 2, 9),
    (509, 3, 10, 2, 2, None), (689, 3, 10, 2, 2, None), (688, 2, 9, 1, 1, 6), (691, 3, 6, 2, 2, 9),
    (715, 3, 6, 2, 2, None), (767, 3, 10, 2, 2, 8), (1559, 3, 10, 2, 2, 8), (3379, 3, 10, 2, 2, 8),
    (3421, 3, 10, 2, 2, 8), (4675, 3, 11, 2, 2, 9), (8066, 2, 7, 1, 1, 5), (10085, 3, 10, 2, 2, 8),
    (13941, 3, 9, 2, 2, 7), (17364, 2, 9, 1, 1, 7), (17917, 3, 9, 2, 2, 7), (22902, 2, 10, 2, 1, 8),
    (41446, 2, 11, 2, 1, 9), (44721, 3, 10, 1, 2, 8),
]


def all_cases():
    """Programs, inputs, losses, and the sufficient plans by the second exploration."""
    rows = [(seed, 1 + seed % 3, 4 + seed % 6, seed // 2 % 3, 1 + seed % 2, (None, seed % 11)[seed % 2]) for seed in range(50)]
    for seed, variables, steps, saves, many, loss in CHOSEN + rows:
        program = random_program(seed, variables, steps, saves)
        inputs = some_inputs(program, many)
        if inputs:
            yield program, inputs, loss, good_plans(program, inputs, loss)


CASES = list(all_cases())


class Lists(unittest.TestCase):
    def test_example(self):
        self.assertEqual(finest_plans(TOTAL, [ZERO])[:3], [EMPTY, ((0,), (("t",),)), WHOLE])

    def test_sufficient_plans_of_the_example(self):
        self.assertEqual(sufficient_plans(TOTAL, [ZERO]), [
            EMPTY, ((0,), (("t",),)), WHOLE, ((0,), (("i", "s", "t"),)), ((0,), (("i", "s"), ("t",))),
            ((0,), (("t",), ("i", "s"))),
        ])
        self.assertEqual(sufficient_plans(TOTAL, [ZERO], loss=7), [
            WHOLE, ((0,), (("i", "s", "t"),)), ((0,), (("i", "s"), ("t",))), ((0,), (("t",), ("i", "s"))),
        ])
        self.assertEqual(sufficient_plans(TOTAL, [ZERO], loss=6), [])

    def test_other_lists_of_the_example(self):
        self.assertEqual(minimal_plans(TOTAL, [ZERO]), [EMPTY])
        self.assertEqual(minimal_plans(TOTAL, [ZERO], loss=7), [WHOLE])
        self.assertEqual(finest_plans(TOTAL, [ZERO], loss=7), [
            WHOLE, ((0,), (("i", "s"), ("t",))), ((0,), (("t",), ("i", "s"))),
        ])
        self.assertEqual(breaches(TOTAL, [ZERO])[:2], [(EMPTY, ((0,), (("i",),))), (EMPTY, ((0,), (("s",),)))])

    def test_minimal_plans_with_the_same_variables_and_saves(self):
        both = [((3, 6), (("a", "b"),)), ((3, 6), (("a",), ("b",))), ((3, 6), (("b",), ("a",)))]
        self.assertEqual(minimal_plans(PIECES, [(0, 0)], loss=5), both)
        self.assertEqual(sufficient_plans(PIECES, [(0, 0)], loss=5), both)
        self.assertEqual(finest_plans(PIECES, [(0, 0)], loss=5), both[1:])
        self.assertEqual(minimal_plans(PIECES, [(0, 0)]), [EMPTY])

    def test_minimal_plans_of_different_sizes(self):
        program = (("a", "b"), (
            ("if", "a", 5), ("less", "a", "b", "a"), ("add", "a", "a", "a"), ("set", "b", 1), ("sub", "a", "b", "a"), ("save",),
            ("add", "a", "a", "b"), ("save",), ("set", "b", 0), ("stop", "a"),
        ))
        self.assertEqual(minimal_plans(program, [(0, 0)], loss=8), [
            ((7,), (("a",),)), ((5,), (("a", "b"),)), ((5,), (("b",), ("a",))),
        ])

    def test_sufficient_plans_against_the_plain_exploration(self):
        for program, inputs, loss, good in CASES:
            self.assertEqual(sufficient_plans(program, inputs, loss=loss), good)

    def test_minimal_plans_against_the_plain_exploration(self):
        for program, inputs, loss, good in CASES:
            found = [
                plan for plan in good
                if not any(has_all(plan, one) and (key(one)[0] < key(plan)[0] or key(one)[1] < key(plan)[1]) for one in good)
            ]
            self.assertEqual(minimal_plans(program, inputs, loss=loss), found)

    def test_finest_plans_against_the_plain_exploration(self):
        for program, inputs, loss, good in CASES:
            found = [plan for plan in good if not splittings(plan) & set(good)]
            self.assertEqual(finest_plans(program, inputs, loss=loss), found)

    def test_breaches_against_the_plain_exploration(self):
        for program, inputs, loss, good in CASES:
            pairs = [(one, other) for one in good for other in changed(program, one) if other not in good]
            self.assertEqual(breaches(program, inputs, loss=loss), sorted(pairs, key=lambda pair: [key(p) for p in pair]))

    def test_there_is_something_to_compare(self):
        rows = [(len(good), len(every_plan(program))) for program, _, _, good in CASES]
        self.assertGreater(sum(2 < many < every - 2 for many, every in rows), 20)
        self.assertGreater(sum(len(breaches(program, inputs, loss=loss)) for program, inputs, loss, _ in CASES), 500)
        smallest = [minimal_plans(program, inputs, loss=loss) for program, inputs, loss, _ in CASES]
        self.assertGreater(sum(len(found) > 1 for found in smallest), 8)

    def test_answers_are_new_and_arguments_are_not_changed(self):
        for function in LISTS:
            inputs = [ZERO]
            before = function(TOTAL, inputs)
            function(TOTAL, inputs).clear()
            self.assertEqual(inputs, [ZERO])
            self.assertEqual(function(TOTAL, inputs), before)
            self.assertEqual(function(TOTAL, (ZERO,)), before)

    def test_kinds(self):
        for function in LISTS:
            self.assertIsInstance(function(TOTAL, [ZERO]), list)
        for pair in breaches(TOTAL, [ZERO]):
            self.assertIsInstance(pair, tuple)


class Certificate(unittest.TestCase):
    def test_family_of_the_example(self):
        found = family(TOTAL, [ZERO])
        self.assertIsInstance(found, Family)
        self.assertEqual(found.plans, sufficient_plans(TOTAL, [ZERO]))
        self.assertTrue(found.are_from([ZERO]))
        self.assertIs(found.is_correct(TOTAL, [ZERO]), True)
        self.assertIs(found.is_correct(TOTAL, (ZERO,)), True)
        self.assertIs(found.is_correct(TOTAL, [ZERO], loss=7), False)

    def test_against_the_plain_exploration(self):
        for program, inputs, loss, good in CASES:
            found = family(program, inputs, loss=loss)
            self.assertEqual(found.plans, good)
            self.assertIs(found.is_correct(program, inputs, loss=loss), True)
            for plan in every_plan(program):
                self.assertEqual(plan not in good, self.has_bad(program, plan, found.runs, loss))

    def has_bad(self, program, plan, runs, loss):
        return any(is_bad(program, plan, value, crashes, loss) for value, crashes in runs)

    def test_each_other_plan_needs_a_bad_run(self):
        for program, inputs, loss, good in CASES[::3]:
            runs = family(program, inputs, loss=loss).runs
            others = [plan for plan in every_plan(program) if plan not in good]
            for k in range(len(runs)):
                rest = runs[:k] + runs[k + 1:]
                enough = all(self.has_bad(program, plan, rest, loss) for plan in others)
                self.assertIs(Family(good, rest).is_correct(program, inputs, loss=loss), enough)

    def test_pairs_of_runs(self):
        program = (("a",), (("if", "a", 3), ("set", "a", 1), ("save",), ("sub", "a", "a", "a"), ("stop", "a")))
        good = good_plans(program, [(0,)], 2)
        self.assertEqual(len(good), 1)
        answers = []
        for moves in range(6):
            for later in range(6):
                runs = [((0,), [moves]), ((0,), [moves, later])]
                enough = all(self.has_bad(program, plan, runs, 2) for plan in every_plan(program) if plan not in good)
                answers.append(Family(good, runs).is_correct(program, [(0,)], loss=2))
                self.assertIs(answers[-1], enough, runs)
        self.assertEqual(set(answers), {True, False})

    def test_additional_runs(self):
        found = family(TOTAL, [ZERO])
        for crashes in [[], [0], [0, 0, 0], [1000000], [17, 1000000], [-1], [10 ** 9], [17]]:
            found.runs.insert(0, (ZERO, crashes))
            self.assertIs(found.is_correct(TOTAL, [ZERO]), True)
        found.runs.append(((1, 0, 0), [1]))
        self.assertIs(found.is_correct(TOTAL, [ZERO]), False)
        found.runs[-1] = ((0, 0), [1])
        self.assertIs(found.is_correct(TOTAL, [ZERO]), False)

    def test_runs_may_have_more_crashes_than_needed(self):
        found = family(TOTAL, [ZERO])
        found.runs = [(value, [0, 0] + crashes) for value, crashes in found.runs]
        self.assertIs(found.is_correct(TOTAL, [ZERO]), True)

    def test_a_crash_of_an_endless_run_has_no_cost(self):
        # From 1 on, the run never stops; after 9 moves of it, the saved value is that of the input again.
        program = (("a",), (
            ("if", "a", 3), ("set", "a", 1), ("go", 6), ("add", "a", "a", "a"), ("save",), ("go", 3), ("save",), ("stop", "a"),
        ))
        good = [EMPTY, ((4,), (("a",),))]
        for loss in (None, 4):
            self.assertEqual(sufficient_plans(program, [(0,)], loss=loss), good)
            for moves in [*range(20), 1000, 1000000]:
                found = Family(good, [((0,), [4, moves])])
                self.assertIs(found.is_correct(program, [(0,)], loss=loss), moves < 9, moves)
                if moves < 20:
                    self.assertEqual(self.has_bad(program, ((4, 6), (("a",),)), found.runs, loss), moves < 9)

    def test_numbers_that_describe_no_run(self):
        # From 1 on, the run never stops, and saves 1 again and again.
        program = (("a",), (
            ("if", "a", 3), ("set", "a", 1), ("go", 6), ("set", "a", 1), ("save",), ("go", 3), ("save",), ("stop", "a"),
        ))
        good = sufficient_plans(program, [(0,)])
        self.assertEqual(good, [EMPTY, ((4,), (("a",),))])
        for moves in (-1000000, -4, -1, 0, 1, 4, 1000, 999999, 1000000, 1000001, 1000002, 10 ** 30):
            for crashes in ([4, moves], [4, moves, 3], [4, 2, moves]):
                answer = Family(good, [((0,), crashes)]).is_correct(program, [(0,)])
                self.assertIs(answer, 0 <= moves <= 1000000, crashes)
            self.assertIs(Family(good, [((0,), [moves, 4])]).is_correct(program, [(0,)]), moves in (0, 1, 4), moves)

    def test_plans_must_be_all_and_in_order(self):
        found = family(TOTAL, [ZERO])
        good = found.plans
        for others in [good[1:], good[:-1], good[::-1], good + good[-1:], good + [((0,), (("i",),))], [], good + [((0,), ())]]:
            self.assertIs(Family(others, found.runs).is_correct(TOTAL, [ZERO]), False)

    def test_follows_the_current_fields(self):
        found = family(TOTAL, [ZERO])
        last = found.plans.pop()
        self.assertIs(found.is_correct(TOTAL, [ZERO]), False)
        found.plans.append(last)
        self.assertIs(found.is_correct(TOTAL, [ZERO]), True)
        for _, crashes in found.runs:
            crashes.clear()
        self.assertIs(found.is_correct(TOTAL, [ZERO]), False)
        found.runs = family(TOTAL, [ZERO]).runs
        self.assertIs(found.is_correct(TOTAL, [ZERO]), True)


class Errors(unittest.TestCase):
    def calls(self):
        return LISTS + [family, Family([EMPTY], [(ZERO, [1])]).is_correct]

    def test_each_error(self):
        for call in self.calls():
            for value in ODD:
                self.assertRaises(InvalidProgram, call, value, [ZERO])
            self.assertRaises(TooLarge, call, FOUR, [(0, 0, 0, 0)])
            self.assertRaises(TooLarge, call, THREE_SAVES, [(0,)])
            for value in BAD_INPUTS:
                self.assertRaises(NotInput, call, TOTAL, value)
            self.assertRaises(NotInput, call, ROUND, [(1, 0)])
            for value in BAD_LOSSES:
                self.assertRaises(InvalidNumber, call, TOTAL, [ZERO], loss=value)
            self.assertRaises(TypeError, call, TOTAL, [ZERO], 7)

    def test_the_error_documented_first_is_raised(self):
        for call in self.calls():
            self.assertRaises(InvalidProgram, call, None, None, loss=True)
            self.assertRaises(TooLarge, call, FOUR, None, loss=True)
            self.assertRaises(NotInput, call, TOTAL, None, loss=True)

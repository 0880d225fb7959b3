"""Points 15 and 16: weights, the cost of a plan, the cheapest sufficient plan, and the frontier."""

import random
import unittest
from unittest.mock import ANY

from tests.reference import (
    EMPTY, ODD, TOTAL, TORN, WHOLE, ZERO, Ends, Hostile, every_plan, greatest, guarded_program, is_bad, key, price,
    random_program, renamed, some_inputs,
)
from tests.test_deciding import BAD_INPUTS, BAD_LOSSES, ROUND
from tests.test_families import FOUR, PIECES, THREE_SAVES
from tests.test_families import CHOSEN as OF_FAMILIES
from tornsaves.costs import Cheapest, cheapest, frontier, plan_cost
from tornsaves.errors import InvalidNumber, InvalidPlan, InvalidProgram, InvalidWeights, NotInput, TooLarge

ONES = ((1, 1, 1), (1,), 1)
FREE = ((0, 0, 0), (0,), 0)
LARGE = (("d", "c", "b", "a"), (("save",), ("copy", "a", "b"), ("save",), ("save",), ("stop", "a")))


def weights_for(program, seed):
    """Weights with many equal ones, so that plans of the same cost are common."""
    source = random.Random(seed)
    values = source.choice([(0,), (1,), (0, 1), (0, 1, 2, 3), (1, 1, 2), (100, 0), (5, 6, 7), range(101)])
    names, steps = program
    saves = [source.choice(values) for step in steps if step == ("save",)]
    return tuple(source.choice(values) for _ in names), tuple(saves), source.choice(values)


def all_cases():
    """Programs, inputs, weights, losses, and the losses of the sufficient plans by the second exploration."""
    rows = [(random_program(*row[:4]), row[4], row[5], row[0]) for row in OF_FAMILIES]
    for seed in range(60):
        rows.append((random_program(seed, 1 + seed % 3, 5 + seed % 6, seed // 3 % 3), 1 + seed % 2, (None, 8)[seed % 2], seed))
        rows.append((guarded_program(seed, 2 + seed % 2, 1 + seed % 4, 1 + seed % 2), 1, ("least", "less")[seed % 2], seed))
    for program, many, loss, seed in rows:
        inputs = some_inputs(program, many)
        if inputs:
            other = renamed(program)
            ends = Ends(other)
            losses = {plan: greatest(other, plan, inputs, ends) for plan in every_plan(other)}
            good = {plan: worst for plan, worst in losses.items() if worst is not None}
            limit = {"least": min(good.values()), "less": max(0, good[EMPTY] - 1)}.get(loss, loss)
            yield other, inputs, weights_for(other, seed), limit, good


CASES = list(all_cases())


def expected(program, weights, loss, good):
    """The plan and the cost of a Cheapest."""
    rows = [plan for plan, worst in good.items() if loss is None or worst <= loss]
    if not rows:
        return None, None
    best = min((price(program, plan, weights), key(plan)) for plan in rows)
    return best[1][-1], best[0]


def cheaper(program, weights, cost):
    return [plan for plan in every_plan(program) if cost is None or price(program, plan, weights) < cost]


def has_bad(program, plan, runs, loss):
    return any(is_bad(program, plan, value, crashes, loss) for value, crashes in runs)


class PlanCost(unittest.TestCase):
    def test_small_plans(self):
        weights = ((1, 10, 100), (7,), 3)
        for plan, cost in [
            (EMPTY, 0), (WHOLE, 21), (TORN, 24), (((0,), (("t",),)), 110), (((0,), (("t",), ("i", "s"))), 124),
            (((0,), ()), 7), (((), (("s",), ("i",))), 17), (((), (("i", "s", "t"),)), 114),
        ]:
            self.assertEqual(plan_cost(TOTAL, plan, weights), cost)
        self.assertEqual(plan_cost(TOTAL, TORN, FREE), 0)

    def test_each_weight_belongs_to_one_variable_or_save(self):
        weights = ((1, 2, 4, 8), (16, 32, 64), 100)
        for plan, cost in [
            (((0,), (("d",),)), 117), (((2,), (("c",),)), 134), (((3,), (("b",),)), 168), (((0, 3), (("a",),)), 188),
            (((0, 2, 3), (("a",), ("d", "b"), ("c",))), 427), (((0, 2, 3), (("d", "c", "b", "a"),)), 227),
            (((2, 3), ()), 96), (EMPTY, 0),
        ]:
            self.assertEqual(plan_cost(LARGE, plan, weights), cost)
        self.assertEqual(plan_cost(LARGE, ((0, 2, 3), (("d", "c", "b", "a"),)), ((100,) * 4, (100,) * 3, 100)), 800)

    def test_against_the_reference(self):
        for program, _, weights, _, _ in CASES:
            for plan in every_plan(program):
                self.assertEqual(plan_cost(program, plan, weights), price(program, plan, weights))

    def test_no_saves(self):
        program = (("a",), (("stop", "a"),))
        self.assertEqual(plan_cost(program, EMPTY, ((5,), (), 6)), 0)
        self.assertEqual(plan_cost(program, ((), (("a",),)), ((5,), (), 6)), 11)


class TheCheapest(unittest.TestCase):
    def test_without_a_loss(self):
        found = cheapest(TOTAL, [ZERO], ONES)
        self.assertIsInstance(found, Cheapest)
        self.assertEqual((found.plan, found.cost), (EMPTY, 0))
        self.assertIs(found.is_correct(TOTAL, [ZERO], ONES), True)
        self.assertIs(Cheapest(EMPTY, 0, []).is_correct(TOTAL, [ZERO], ONES), True)

    def test_with_a_loss(self):
        for weights, plan, cost in [
            (ONES, WHOLE, 4), (FREE, WHOLE, 0), (((1, 2, 3), (4,), 5), WHOLE, 12), (((1, 2, 0), (4,), 0), WHOLE, 7),
            (((100, 100, 100), (100,), 100), WHOLE, 400),
        ]:
            found = cheapest(TOTAL, [ZERO], weights, loss=7)
            self.assertEqual((found.plan, found.cost), (plan, cost))
            self.assertIs(found.is_correct(TOTAL, [ZERO], weights, loss=7), True)

    def test_no_sufficient_plan(self):
        for weights in (ONES, FREE):
            found = cheapest(TOTAL, [ZERO], weights, loss=6)
            self.assertEqual((found.plan, found.cost), (None, None))
            self.assertIs(found.is_correct(TOTAL, [ZERO], weights, loss=6), True)
            self.assertIs(Cheapest(None, None, []).is_correct(TOTAL, [ZERO], weights, loss=6), False)
            self.assertIs(Cheapest(None, None, found.runs).is_correct(TOTAL, [ZERO], weights, loss=7), False)
            for plan in every_plan(TOTAL):
                self.assertTrue(has_bad(TOTAL, plan, found.runs, 6))

    def test_a_later_plan_can_be_cheaper(self):
        program = (("a", "b"), (
            ("if", "a", 5), ("less", "a", "b", "a"), ("add", "a", "a", "a"), ("set", "b", 1), ("sub", "a", "b", "a"), ("save",),
            ("add", "a", "a", "b"), ("save",), ("set", "b", 0), ("stop", "a"),
        ))
        first, second = ((7,), (("a",),)), ((5,), (("a", "b"),))
        for saves, plan, cost in [((1, 1), first, 3), ((0, 2), second, 3), ((0, 1), first, 3), ((2, 1), first, 3)]:
            found = cheapest(program, [(0, 0)], ((1, 1), saves, 1), loss=8)
            self.assertEqual((found.plan, found.cost), (plan, cost))

    def test_groups_that_cost_nothing(self):
        for group, cost in [(1, 5), (0, 4)]:
            found = cheapest(PIECES, [(0, 0)], ((1, 1), (1, 1), group), loss=5)
            self.assertEqual((found.plan, found.cost), (((3, 6), (("a", "b"),)), cost))

    def test_against_the_plain_exploration(self):
        for program, inputs, weights, loss, good in CASES:
            found = cheapest(program, inputs, weights, loss=loss)
            self.assertEqual((found.plan, found.cost), expected(program, weights, loss, good))
            self.assertTrue(found.are_from(inputs))
            for plan in cheaper(program, weights, found.cost):
                self.assertTrue(has_bad(program, plan, found.runs, loss))
            self.assertIs(found.is_correct(program, inputs, weights, loss=loss), True)

    def test_there_is_something_to_compare(self):
        rows = [(cheapest(*case[:3], loss=case[3]), case) for case in CASES]
        self.assertGreater(sum(found.plan is None for found, _ in rows), 15)
        self.assertGreater(sum(found.plan not in (None, EMPTY) for found, _ in rows), 25)
        self.assertGreater(sum(len(found.runs) > 1 for found, _ in rows), 15)
        ties = [
            [plan for plan in case[-1] if price(case[0], plan, case[2]) == found.cost and case[-1][plan] <= case[3]]
            for found, case in rows if found.plan not in (None, EMPTY)
        ]
        self.assertGreater(sum(len(plans) > 1 for plans in ties), 7)

    def test_answers_are_new_and_arguments_are_not_changed(self):
        inputs = [ZERO]
        found = cheapest(TOTAL, inputs, ONES, loss=7)
        fields = found.fields
        self.assertEqual(inputs, [ZERO])
        inputs.clear()
        found.runs[0][1].clear()
        found.runs.clear()
        self.assertEqual(cheapest(TOTAL, (ZERO,), ONES, loss=7).fields, fields)


class IsCorrect(unittest.TestCase):
    def test_plan_and_cost_must_be_right(self):
        for program, inputs, weights, loss, good in CASES:
            plan, cost = expected(program, weights, loss, good)
            runs = cheapest(program, inputs, weights, loss=loss).runs
            for other in [None, *every_plan(program)]:
                answer = Cheapest(other, cost, runs).is_correct(program, inputs, weights, loss=loss)
                self.assertIs(answer, other == plan)
            for other in [None, 0, 1, 7, -1] + ([] if cost is None else [cost, cost + 1, cost - 1]):
                answer = Cheapest(plan, other, runs).is_correct(program, inputs, weights, loss=loss)
                self.assertIs(answer, other == cost)

    def test_a_plan_of_the_same_cost_is_not_enough(self):
        runs = cheapest(TOTAL, [ZERO], FREE, loss=7).runs
        self.assertIs(Cheapest(WHOLE, 0, runs).is_correct(TOTAL, [ZERO], FREE, loss=7), True)
        for groups in [(("i", "s", "t"),), (("i", "s"), ("t",)), (("t",), ("i", "s"))]:
            self.assertIs(Cheapest(((0,), groups), 0, runs).is_correct(TOTAL, [ZERO], FREE, loss=7), False)

    def test_plans_of_the_same_cost_need_no_runs(self):
        self.assertIs(Cheapest(WHOLE, 0, []).is_correct(TOTAL, [ZERO], FREE, loss=7), True)
        self.assertIs(Cheapest(WHOLE, 4, []).is_correct(TOTAL, [ZERO], ONES, loss=7), False)
        # Only the empty plan costs less than this one.
        weights = ((0, 0, 0), (5,), 0)
        self.assertIs(Cheapest(WHOLE, 5, [(ZERO, [28])]).is_correct(TOTAL, [ZERO], weights, loss=7), True)
        self.assertIs(Cheapest(WHOLE, 5, [(ZERO, [7])]).is_correct(TOTAL, [ZERO], weights, loss=7), False)

    def test_each_cheaper_plan_needs_a_bad_run(self):
        answers = []
        for program, inputs, weights, loss, good in CASES:
            plan, cost = expected(program, weights, loss, good)
            runs = cheapest(program, inputs, weights, loss=loss).runs
            others = cheaper(program, weights, cost)
            for k in range(len(runs)):
                for rest in (runs[:k], runs[:k] + runs[k + 1:]):
                    enough = all(has_bad(program, one, rest, loss) for one in others)
                    answers.append(enough)
                    self.assertIs(Cheapest(plan, cost, rest).is_correct(program, inputs, weights, loss=loss), enough)
        self.assertGreater(answers.count(False), 100)

    def test_additional_runs(self):
        found = cheapest(TOTAL, [ZERO], ONES, loss=7)
        for crashes in [[], [0], [0, 0, 0], [1000000], [17, 1000000], [-1], [10 ** 9], [28]]:
            found.runs.insert(0, (ZERO, crashes))
            self.assertIs(found.is_correct(TOTAL, [ZERO], ONES, loss=7), True)
        found.runs = [(value, [0, 0, *crashes]) for value, crashes in found.runs]
        self.assertIs(found.is_correct(TOTAL, [ZERO], ONES, loss=7), True)
        found.runs.append(((3, 0, 0), [1]))
        self.assertIs(found.is_correct(TOTAL, [ZERO], ONES, loss=7), False)
        self.assertIs(found.is_correct(TOTAL, [ZERO, (3, 0, 0)], ONES, loss=7), True)
        found.runs[-1] = ((0, 0), [1])
        self.assertIs(found.is_correct(TOTAL, [ZERO], ONES, loss=7), False)

    def test_follows_the_current_fields(self):
        found = cheapest(TOTAL, [ZERO], ONES, loss=7)
        runs = [(value, list(crashes)) for value, crashes in found.runs]
        for word, wrong, right in [("plan", TORN, WHOLE), ("cost", 5, 4), ("cost", None, 4), ("plan", None, WHOLE), ("runs", [], runs)]:
            setattr(found, word, wrong)
            self.assertIs(found.is_correct(TOTAL, [ZERO], ONES, loss=7), False)
            self.assertNotEqual(found, Cheapest(WHOLE, 4, runs))
            self.assertIn(wrong, found.fields)
            setattr(found, word, right)
            self.assertIs(found.is_correct(TOTAL, [ZERO], ONES, loss=7), True)
            self.assertEqual(found, Cheapest(WHOLE, 4, runs))
        for _, crashes in found.runs:
            crashes.clear()
        self.assertIs(found.is_correct(TOTAL, [ZERO], ONES, loss=7), False)

    def test_other_arguments(self):
        found = cheapest(TOTAL, [ZERO], ONES, loss=7)
        self.assertIs(found.is_correct(TOTAL, [ZERO], ONES), False)
        self.assertIs(found.is_correct(TOTAL, [ZERO], ONES, loss=6), False)
        self.assertIs(found.is_correct(TOTAL, [ZERO], ((1, 1, 1), (1,), 2), loss=7), False)
        self.assertIs(found.is_correct(TOTAL, [(1, 0, 0)], ONES, loss=7), False)


class Frontier(unittest.TestCase):
    def test_example(self):
        self.assertEqual(frontier(TOTAL, [ZERO], ONES), [(0, 28, EMPTY), (4, 7, WHOLE)])

    def test_only_the_first_plan_of_the_same_cost_and_loss(self):
        self.assertEqual(frontier(TOTAL, [ZERO], FREE), [(0, 7, WHOLE)])
        self.assertEqual(frontier(TOTAL, [ZERO], ((0, 0, 0), (1,), 0)), [(0, 28, EMPTY), (1, 7, WHOLE)])
        both = ((3, 6), (("a", "b"),))
        self.assertEqual(frontier(PIECES, [(0, 0)], ((0, 0), (0, 0), 0)), [(0, 5, both)])

    def test_no_saves(self):
        self.assertEqual(frontier((("a",), (("stop", "a"),)), [(4,)], ((1,), (), 1)), [(0, 0, EMPTY)])

    def test_against_the_plain_exploration(self):
        longest = 0
        for program, inputs, weights, _, good in CASES:
            rows = [(price(program, plan, weights), worst, key(plan), plan) for plan, worst in good.items()]
            kept = [
                (cost, worst, plan) for cost, worst, place, plan in rows
                if not any(one <= cost and two < worst or one < cost and two <= worst for one, two, _, _ in rows)
                and not any((one, two) == (cost, worst) and other < place for one, two, other, _ in rows)
            ]
            found = frontier(program, inputs, weights)
            self.assertEqual(found, sorted(kept))
            longest = max(longest, len(found))
        self.assertGreater(longest, 3)

    def test_answers_are_new_and_arguments_are_not_changed(self):
        inputs = [ZERO]
        found = frontier(TOTAL, inputs, ONES)
        found.clear()
        self.assertEqual(inputs, [ZERO])
        self.assertEqual(len(frontier(TOTAL, (ZERO,), ONES)), 2)
        self.assertIsInstance(frontier(TOTAL, inputs, ONES)[0], tuple)


BAD_WEIGHTS = ODD + [
    [(1, 1, 1), (1,), 1], ((1, 1, 1), (1,)), ((1, 1, 1), (1,), 1, 1), ((1, 1), (1,), 1), ((1, 1, 1, 1), (1,), 1),
    ((1, 1, 1), (), 1), ((1, 1, 1), (1, 1), 1), ([1, 1, 1], (1,), 1), ((1, 1, 1), [1], 1), ((1, 1, 1), 1, 1), (1, (1,), 1),
    ((1, 1, 1), (1,), (1,)), ((1, 1, 1), (1,), 101), ((1, 1, 1), (101,), 1), ((1, 1, 101), (1,), 1), ((-1, 1, 1), (1,), 1),
    ((1, 1, 1), (-1,), 1), ((1, 1, 1), (1,), -1), ((True, 1, 1), (1,), 1), ((1, 1, 1), (True,), 1), ((1, 1, 1), (1,), True),
    ((1, 1, 1), (1,), False), ((1, 1, 1), (1,), None), ((1, None, 1), (1,), 1), ((1, "1", 1), (1,), 1), ((1, 1, 1), ("1",), 1),
    ((1, 1, 1), (1,), "1"), ("111", (1,), 1), ((1, 1, 1), "1", 1), ({0: 1, 1: 1, 2: 1}, (1,), 1), ((1, 1, 1), {1}, 1),
    ((1, [1], 1), (1,), 1), ((1, 1, 1), ((1,),), 1), ((1, 1, 1), (1,), []), ((1, 1, 1), (1,), 10 ** 30), (ANY, (1,), 1),
    ((1, 1, 1), ANY, 1), ((1, 1, 1), (1,), ANY), ((ANY, 1, 1), (1,), 1), ((1, 1, 1), (ANY,), 1), (Hostile(), (1,), 1),
    ((1, 1, Hostile()), (1,), 1), ((1, 1, 1), (Hostile(),), 1), ((1, 1, 1), (1,), Hostile()), ((1,), (1, 1, 1), 1),
]


class Errors(unittest.TestCase):
    def calls(self):
        yield cheapest
        yield frontier
        yield Cheapest(EMPTY, 0, [(ZERO, [1])]).is_correct
        yield Cheapest(None, None, []).is_correct

    def test_each_error(self):
        for call in self.calls():
            for value in ODD:
                self.assertRaises(InvalidProgram, call, value, [ZERO], ONES)
            self.assertRaises(TooLarge, call, FOUR, [(0, 0, 0, 0)], ((1, 1, 1, 1), (1,), 1))
            self.assertRaises(TooLarge, call, THREE_SAVES, [(0,)], ((1,), (1, 1, 1), 1))
            for value in BAD_INPUTS:
                self.assertRaises(NotInput, call, TOTAL, value, ONES)
            self.assertRaises(NotInput, call, ROUND, [(1, 0)], ((1, 1), (1, 1), 1))
            for value in BAD_WEIGHTS:
                self.assertRaises(InvalidWeights, call, TOTAL, [ZERO], value)
            self.assertRaises(TypeError, call, TOTAL, [ZERO], ONES, 7)

    def test_loss(self):
        for call in self.calls():
            if call is not frontier:
                for value in BAD_LOSSES:
                    self.assertRaises(InvalidNumber, call, TOTAL, [ZERO], ONES, loss=value)
                for value in (None, 0, 1000000):
                    call(TOTAL, [ZERO], ONES, loss=value)
        self.assertRaises(TypeError, frontier, TOTAL, [ZERO], ONES, loss=7)

    def test_limits_of_weights(self):
        for call in self.calls():
            call(TOTAL, [ZERO], ((0, 100, 0), (100,), 100))
            call(TOTAL, [ZERO], FREE)

    def test_plan_cost(self):
        for value in ODD:
            self.assertRaises(InvalidProgram, plan_cost, value, WHOLE, ONES)
            self.assertRaises(InvalidPlan, plan_cost, TOTAL, value, ONES)
        for value in [((1,), ()), ((0,), (("u",),)), ((0,), (("s", "i"),)), [(0,), ()], ((0,), (("i",), ("i",)))]:
            self.assertRaises(InvalidPlan, plan_cost, TOTAL, value, ONES)
        for value in BAD_WEIGHTS:
            self.assertRaises(InvalidWeights, plan_cost, TOTAL, WHOLE, value)

    def test_the_error_documented_first_is_raised(self):
        self.assertRaises(InvalidProgram, plan_cost, None, None, None)
        self.assertRaises(InvalidPlan, plan_cost, TOTAL, None, None)
        for call in self.calls():
            more = {} if call is frontier else {"loss": True}
            self.assertRaises(InvalidProgram, call, None, None, None, **more)
            self.assertRaises(TooLarge, call, FOUR, None, None, **more)
            self.assertRaises(NotInput, call, TOTAL, None, None, **more)
            self.assertRaises(InvalidWeights, call, TOTAL, [ZERO], None, **more)

    def test_a_refused_call_changes_nothing(self):
        found = cheapest(TOTAL, [ZERO], ONES, loss=7)
        fields = found.fields
        self.assertRaises(InvalidWeights, found.is_correct, TOTAL, [ZERO], None)
        self.assertEqual(found.fields, fields)

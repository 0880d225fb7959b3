"""Points 7 to 9: sufficient plans, the cost of a crash, and the decision."""

import itertools
import unittest

from tests.reference import (
    EMPTY, ODD, TOTAL, TORN, WHOLE, ZERO, Ends, decision, every_plan, is_bad, random_program, some_inputs,
)
from tornsaves.deciding import Insufficient, Sufficient, decide, loss_of
from tornsaves.errors import InvalidNumber, InvalidPlan, InvalidProgram, NotInput

# Counts its starts, and goes round for ever in the third one.
STARTS = (("a", "b"), (
    ("set", "b", 1), ("add", "a", "a", "b"), ("save",), ("set", "b", 3), ("less", "b", "a", "b"), ("if", "b", 7),
    ("go", 6), ("stop", "b"),
))
# Counts its starts, and takes four more steps from the third one on.
SLOWER = (("a", "b"), (
    ("set", "b", 1), ("add", "a", "a", "b"), ("save",), ("set", "b", 3), ("less", "b", "a", "b"), ("if", "b", 10),
    ("copy", "a", "a"), ("copy", "a", "a"), ("copy", "a", "a"), ("copy", "a", "a"), ("set", "b", 0), ("stop", "b"),
))
# After a crash behind the save, it goes round for ever; a crash in the last rounds but one ends that.
ROUND = (("a", "b"), (
    ("if", "a", 4), ("set", "a", 1), ("save",), ("stop", "b"),
    ("set", "b", 1), ("add", "a", "a", "b"), ("save",), ("go", 5),
))
COUNTED = ((2,), (("a",),))
MANY_CRASHES = [
    (3691, 3, 8, 2), (3742, 2, 10, 2), (3835, 3, 12, 2), (4166, 2, 7, 3), (4600, 2, 7, 2), (4900, 2, 6, 2),
    (5127, 3, 9, 1), (5488, 2, 6, 2), (5936, 2, 6, 3),
]
BAD_INPUTS = [
    value for value in ODD if not isinstance(value, (tuple, list))
] + [
    [], (), [ZERO, ZERO], [(0, 0, 1), ZERO, (0, 0, 1)], [(0, 0, k) for k in range(5)], ZERO, [(0, 0)], [(0, 0, 8)],
    [(0, 0, True)], [[0, 0, 0]], [None], [ZERO, None], {ZERO: 1}, {ZERO}, "000", [{}], [ZERO, (0, 0, "1")], iter([ZERO]),
]
BAD_LOSSES = [True, False, -1, 1000001, 10 ** 40, "1", "", [], [1], (), {}, set(), object()]


class Decide(unittest.TestCase):
    def test_sufficient(self):
        found = decide(TOTAL, WHOLE, [ZERO])
        self.assertIsInstance(found, Sufficient)
        self.assertEqual(found.stores, [[ZERO, (1, 0, 0), (2, 1, 0), (3, 3, 0)]])
        self.assertEqual(found.fields, [found.stores])

    def test_insufficient(self):
        found = decide(TOTAL, TORN, [ZERO])
        self.assertIsInstance(found, Insufficient)
        self.assertEqual(found.value, ZERO)
        self.assertEqual(len(found.crashes), 1)
        self.assertTrue(is_bad(TOTAL, TORN, ZERO, found.crashes))

    def test_the_torn_save_in_the_other_order(self):
        self.assertIsInstance(decide(TOTAL, ((0,), (("s",), ("i",))), [ZERO]), Insufficient)
        self.assertIsInstance(decide(TOTAL, ((0,), (("i", "s"), ("t",))), [ZERO]), Sufficient)

    def test_plans_that_save_nothing(self):
        for plan in [EMPTY, ((0,), ()), ((), (("i",), ("s",)))]:
            self.assertEqual(decide(TOTAL, plan, [ZERO]), Sufficient([[ZERO]]))
            self.assertEqual(loss_of(TOTAL, plan, [ZERO]), 28)

    def test_loss_of_plans_that_save_nothing(self):
        for plan in [EMPTY, ((0,), ()), ((), (("i",), ("s",)))]:
            found = decide(TOTAL, plan, [ZERO], loss=27)
            self.assertEqual(found, Insufficient(ZERO, [28]))
            self.assertIs(found.is_correct(TOTAL, plan, [ZERO], loss=27), True)
            self.assertEqual(decide(TOTAL, plan, [ZERO], loss=28), Sufficient([[ZERO]]))

    def test_several_inputs_in_their_order(self):
        inputs = [(2, 1, 7), ZERO]
        found = decide(TOTAL, WHOLE, inputs)
        self.assertEqual(found.stores, [
            [(2, 1, 7), (3, 3, 7)], [ZERO, (1, 0, 0), (2, 1, 0), (3, 3, 0)],
        ])
        self.assertEqual(decide(TOTAL, WHOLE, tuple(inputs)), found)
        self.assertEqual(decide(TOTAL, WHOLE, inputs[::-1]).stores, found.stores[::-1])
        self.assertIs(found.is_correct(TOTAL, WHOLE, inputs[::-1]), False)

    def test_stores_in_the_middle_of_a_save_are_reached(self):
        program = (("a", "b"), (("set", "a", 1), ("set", "b", 1), ("save",), ("set", "b", 2), ("stop", "b")))
        self.assertEqual(decide(program, ((2,), (("b",), ("a",))), [(0, 0)]), Sufficient([[(0, 0), (0, 1), (1, 1)]]))

    def test_two_crashes_are_needed(self):
        found = decide(STARTS, COUNTED, [(0, 0)])
        self.assertEqual((found.value, len(found.crashes)), ((0, 0), 2))
        self.assertTrue(is_bad(STARTS, COUNTED, (0, 0), found.crashes))
        self.assertIs(Insufficient((0, 0), [3, 3]).is_correct(STARTS, COUNTED, [(0, 0)]), True)
        self.assertIs(Insufficient((0, 0), [3, 0, 3]).is_correct(STARTS, COUNTED, [(0, 0)]), False)
        self.assertIs(Insufficient((0, 0), [3]).is_correct(STARTS, COUNTED, [(0, 0)]), False)

    def test_no_run_from_another_input_has_fewer_crashes(self):
        for inputs in ([(0, 0), (1, 0)], [(1, 0), (0, 0)]):
            found = decide(STARTS, COUNTED, inputs)
            self.assertEqual((found.value, len(found.crashes)), ((1, 0), 1))
            self.assertIs(Insufficient((0, 0), [3, 3]).is_correct(STARTS, COUNTED, inputs), False)
            self.assertIs(Insufficient((1, 0), [3]).is_correct(STARTS, COUNTED, inputs), True)

    def test_loss(self):
        self.assertEqual(decide(TOTAL, WHOLE, [ZERO], loss=7), decide(TOTAL, WHOLE, [ZERO]))
        found = decide(TOTAL, WHOLE, [ZERO], loss=6)
        self.assertIsInstance(found, Insufficient)
        self.assertTrue(is_bad(TOTAL, WHOLE, ZERO, found.crashes, 6))
        self.assertIsInstance(decide(TOTAL, WHOLE, [ZERO], loss=1000000), Sufficient)
        self.assertIsInstance(decide(TOTAL, TORN, [ZERO], loss=1000000), Insufficient)

    def test_loss_with_two_crashes(self):
        self.assertEqual(loss_of(SLOWER, COUNTED, [(0, 0)]), 11)
        for loss, crashes in [(0, 1), (6, 1), (7, 2), (10, 2)]:
            found = decide(SLOWER, COUNTED, [(0, 0)], loss=loss)
            self.assertEqual(len(found.crashes), crashes)
            self.assertTrue(is_bad(SLOWER, COUNTED, (0, 0), found.crashes, loss))
        self.assertIsInstance(decide(SLOWER, COUNTED, [(0, 0)], loss=11), Sufficient)

    def test_a_crash_can_make_a_run_shorter(self):
        # Once `a` has been saved, the way is short; the input alone loses something.
        program = (("a",), (
            ("if", "a", 6), ("copy", "a", "a"), ("copy", "a", "a"), ("set", "a", 1), ("save",), ("go", 7),
            ("go", 11), ("copy", "a", "a"), ("copy", "a", "a"), ("copy", "a", "a"), ("copy", "a", "a"), ("stop", "a"),
        ))
        plan = ((4,), (("a",),))
        self.assertEqual(loss_of(program, plan, [(0,)]), decision(program, plan, (0,))[1])
        self.assertEqual(loss_of(program, plan, [(0,)]), 4)
        self.assertEqual(loss_of(program, plan, [(1,)]), 2)
        self.assertEqual(loss_of(program, plan, [(0,), (1,)]), 4)

    def test_many_crashes_against_the_plain_exploration(self):
        most = 0
        for rows in MANY_CRASHES:
            program = random_program(*rows)
            for plan in every_plan(program)[::3]:
                for loss in (None, 5):
                    most = max(most, self.compare(program, plan, some_inputs(program, 2), loss, Ends(program)))
        self.assertGreater(most, 5)

    def test_against_the_plain_exploration(self):
        for seed in range(160):
            program = random_program(seed, 1 + seed % 3, 4 + seed % 7, seed % 4 % (4 + seed % 7))
            inputs, ends = some_inputs(program, 1 + seed % 3), Ends(program)
            for plan in every_plan(program)[seed % 3::4] if inputs else []:
                for loss in (None, seed % 12):
                    self.compare(program, plan, inputs, loss, ends)

    def test_four_variables_against_the_plain_exploration(self):
        groups = [(("a", "b", "c", "d"),), (("d",), ("a", "c"), ("b",)), (("a",), ("b",), ("c",), ("d",)), (("b", "d"),)]
        for seed in range(40):
            program = random_program(seed, 4, 9, 3)
            inputs, ends = some_inputs(program, 4), Ends(program)
            saves = tuple(k for k, step in enumerate(program[1]) if step == ("save",))
            for plan in itertools.product([saves, saves[:2], saves[1:]], groups) if inputs else []:
                for loss in (None, 9):
                    self.compare(program, plan, inputs, loss, ends)

    def compare(self, program, plan, inputs, loss, ends):
        """Compares a decision with the second exploration; returns the number of crashes."""
        found = decide(program, plan, inputs, loss=loss)
        rows = [decision(program, plan, value, loss, ends) for value in inputs]
        fewest = min((bad for _, _, bad in rows if bad is not None), default=0)
        if fewest:
            self.assertIsInstance(found, Insufficient)
            self.assertIn(found.value, inputs)
            self.assertEqual(len(found.crashes), fewest, (program, plan, inputs, loss))
            self.assertTrue(is_bad(program, plan, found.value, found.crashes, loss))
        else:
            self.assertEqual(found, Sufficient([stores for stores, _, _ in rows]))
        self.assertIs(found.is_correct(program, plan, inputs, loss=loss), True)
        if loss is None:
            self.assertEqual(loss_of(program, plan, inputs), None if fewest else max(cost for _, cost, _ in rows))
        return fewest

    def test_long_runs(self):
        count = (("a", "b", "c", "d"), (
            ("save",), ("set", "d", 1), ("add", "a", "a", "d"), ("if", "a", 0), ("save",), ("add", "b", "b", "d"),
            ("if", "b", 0), ("save",), ("add", "c", "c", "d"), ("if", "c", 0), ("stop", "c"),
        ))
        inputs = [(k, 0, 0, 0) for k in range(4)]
        found = decide(count, ((0,), (("a", "b", "c"),)), inputs)
        self.assertEqual([len(stores) for stores in found.stores], [512, 511, 510, 509])
        self.assertEqual(loss_of(count, ((0,), (("a", "b", "c"),)), inputs), 10)
        found = decide(count, ((0, 4, 7), (("d",), ("c",), ("b",), ("a",))), inputs, loss=1)
        self.assertTrue(is_bad(count, ((0, 4, 7), (("d",), ("c",), ("b",), ("a",))), found.value, found.crashes, 1))

    def test_arguments_are_not_changed_and_answers_are_new(self):
        inputs = [ZERO, (1, 0, 0)]
        found = decide(TOTAL, WHOLE, inputs)
        self.assertEqual(inputs, [ZERO, (1, 0, 0)])
        inputs.clear()
        found.stores[0].clear()
        self.assertEqual(len(decide(TOTAL, WHOLE, [ZERO, (1, 0, 0)]).stores[0]), 4)
        first = decide(TOTAL, TORN, [ZERO])
        first.crashes.clear()
        self.assertEqual(len(decide(TOTAL, TORN, [ZERO]).crashes), 1)


class LossOf(unittest.TestCase):
    def test_example(self):
        self.assertEqual((loss_of(TOTAL, WHOLE, [ZERO]), loss_of(TOTAL, EMPTY, [ZERO])), (7, 28))

    def test_insufficient(self):
        self.assertIsNone(loss_of(TOTAL, TORN, [ZERO]))
        self.assertIsNone(loss_of(STARTS, COUNTED, [(0, 0)]))
        self.assertIsNone(loss_of(TOTAL, TORN, [(3, 0, 0), ZERO]))

    def test_several_inputs(self):
        self.assertEqual(loss_of(TOTAL, EMPTY, [(3, 0, 0), (2, 0, 0)]), 14)
        self.assertEqual(loss_of(TOTAL, EMPTY, [(3, 0, 0)]), 7)

    def test_is_at_least_0(self):
        self.assertEqual(loss_of((("a",), (("stop", "a"),)), EMPTY, [(4,)]), 0)

    def test_a_step_that_is_not_completed_is_still_to_be_executed(self):
        program = (("a", "b"), (("save",), ("stop", "a")))
        self.assertEqual(loss_of(program, ((0,), (("a",), ("b",))), [(0, 0)]), 1)


class SufficientIsCorrect(unittest.TestCase):
    def test_only_all_stores_in_order(self):
        stores = [ZERO, (1, 0, 0), (2, 1, 0), (3, 3, 0)]
        self.assertIs(Sufficient([stores]).is_correct(TOTAL, WHOLE, [ZERO]), True)
        for others in [
            [], [[]], [stores[:-1]], [stores[1:]], [stores[::-1]], [stores + [(4, 6, 0)]], [stores, stores],
            [stores + stores[-1:]], [[(0, 0)]], [stores, []],
        ]:
            self.assertIs(Sufficient(others).is_correct(TOTAL, WHOLE, [ZERO]), False)

    def test_not_for_insufficient_plans(self):
        found = decide(TOTAL, WHOLE, [ZERO])
        self.assertIs(found.is_correct(TOTAL, TORN, [ZERO]), False)
        self.assertIs(found.is_correct(TOTAL, WHOLE, [ZERO], loss=7), True)
        self.assertIs(found.is_correct(TOTAL, WHOLE, [ZERO], loss=6), False)

    def test_follows_the_current_fields(self):
        found = decide(TOTAL, WHOLE, [ZERO])
        last = found.stores[0].pop()
        self.assertIs(found.is_correct(TOTAL, WHOLE, [ZERO]), False)
        found.stores = [found.stores[0] + [last]]
        self.assertIs(found.is_correct(TOTAL, WHOLE, [ZERO]), True)


class InsufficientIsCorrect(unittest.TestCase):
    def test_example(self):
        self.assertIs(Insufficient(ZERO, [17]).is_correct(TOTAL, TORN, [ZERO]), True)

    def test_each_number_of_moves(self):
        for moves in range(-2, 40):
            answer = Insufficient(ZERO, [moves]).is_correct(TOTAL, TORN, [ZERO])
            self.assertIs(answer, moves >= 0 and is_bad(TOTAL, TORN, ZERO, [moves]), moves)

    def test_runs_that_are_not_correct(self):
        for value, crashes in [
            (ZERO, []), (ZERO, [0, 17]), (ZERO, [17, 0]), (ZERO, [1000001]), (ZERO, [10 ** 30]), ((1, 0, 0), [17]),
            ((0, 0), [17]), ((), [17]), (ZERO, [33]), (ZERO, [-17]), (ZERO, [32]),
        ]:
            self.assertIs(Insufficient(value, crashes).is_correct(TOTAL, TORN, [ZERO]), False)
        self.assertIs(Insufficient(ZERO, [17]).is_correct(TOTAL, WHOLE, [ZERO]), False)
        self.assertIs(Insufficient(ZERO, [17]).is_correct(TOTAL, TORN, [(1, 0, 0), (2, 0, 0)]), False)

    def test_loss(self):
        for moves in range(30):
            for loss in (0, 3, 6, 7):
                answer = Insufficient(ZERO, [moves]).is_correct(TOTAL, WHOLE, [ZERO], loss=loss)
                self.assertIs(answer, is_bad(TOTAL, WHOLE, ZERO, [moves], loss))

    def test_runs_with_two_crashes(self):
        for loss in (None, 8):
            program = STARTS if loss is None else SLOWER
            for crashes in itertools.product(range(13), repeat=2):
                answer = Insufficient((0, 0), crashes).is_correct(program, COUNTED, [(0, 0)], loss=loss)
                self.assertIs(answer, is_bad(program, COUNTED, (0, 0), crashes, loss), crashes)

    def test_against_the_plain_exploration(self):
        for seed in range(60):
            program = random_program(seed, 1 + seed % 3, 5 + seed % 5, 1 + seed % 2)
            inputs = some_inputs(program, 2)
            for plan in every_plan(program)[1::8] if inputs else []:
                loss = (None, 0, 4)[seed % 3]
                for value, moves in itertools.product(inputs, range(25)):
                    answer = Insufficient(value, [moves]).is_correct(program, plan, inputs, loss=loss)
                    self.assertIs(answer, is_bad(program, plan, value, [moves], loss))

    def test_follows_the_current_fields(self):
        found = decide(TOTAL, TORN, [ZERO])
        self.assertIs(found.is_correct(TOTAL, TORN, [ZERO]), True)
        found.crashes.append(0)
        self.assertIs(found.is_correct(TOTAL, TORN, [ZERO]), False)
        found.crashes = [17]
        self.assertIs(found.is_correct(TOTAL, TORN, [ZERO]), True)
        found.value = (1, 0, 0)
        self.assertIs(found.is_correct(TOTAL, TORN, [ZERO]), False)


class Errors(unittest.TestCase):
    def calls(self):
        yield decide
        yield loss_of
        yield Sufficient([[ZERO]]).is_correct
        yield Insufficient(ZERO, [17]).is_correct

    def test_each_error(self):
        for call in self.calls():
            for value in ODD:
                self.assertRaises(InvalidProgram, call, value, WHOLE, [ZERO])
                self.assertRaises(InvalidPlan, call, TOTAL, value, [ZERO])
            for value in BAD_INPUTS:
                self.assertRaises(NotInput, call, TOTAL, WHOLE, value)
            self.assertRaises(NotInput, call, ROUND, EMPTY, [(0, 0), (1, 0)])

    def test_loss(self):
        for call in self.calls():
            if call is not loss_of:
                for value in BAD_LOSSES:
                    self.assertRaises(InvalidNumber, call, TOTAL, WHOLE, [ZERO], loss=value)
                self.assertRaises(TypeError, call, TOTAL, WHOLE, [ZERO], 7)
                for value in (None, 0, 1000000):
                    call(TOTAL, WHOLE, [ZERO], loss=value)

    def test_the_error_documented_first_is_raised(self):
        for call in self.calls():
            more = {} if call is loss_of else {"loss": True}
            self.assertRaises(InvalidProgram, call, None, None, None, **more)
            self.assertRaises(InvalidPlan, call, TOTAL, None, None, **more)
            self.assertRaises(NotInput, call, TOTAL, WHOLE, [], **more)

"""Points 4 to 6: moves, crashes and saved stores."""

import unittest

from tests.reference import (
    EMPTY, ODD, TOTAL, TORN, WHOLE, ZERO, after_move, every_plan, random_program, some_inputs,
)
from tornsaves.errors import InvalidCrashes, InvalidNumber, InvalidPlan, InvalidProgram, InvalidStore, NotInput
from tornsaves.runs import replay, trace

# After a crash behind the save, the run goes round for ever and saves 2, 3, .. 7, 0, 1, 2, ...
ROUND = (("a", "b"), (
    ("if", "a", 4), ("set", "a", 1), ("save",), ("stop", "a"),
    ("set", "b", 1), ("add", "a", "a", "b"), ("save",), ("go", 5),
))
# The only step is a stop.
AT_ONCE = (("a",), (("stop", "a"),))


def plain_trace(program, plan, store, most):
    """The pairs of `trace`, move by move."""
    found, completed, situation = [], 0, (0, store, store, 0)
    while situation[0] is not None and len(found) < most:
        found.append((completed, situation[2]))
        situation = after_move(program, plan, situation)
        completed += situation[3] == 0
    return found


class Trace(unittest.TestCase):
    def test_groups_are_written_one_after_the_other(self):
        program = (("a", "b", "c"), (("set", "a", 1), ("set", "b", 2), ("set", "c", 3), ("save",), ("stop", "a")))
        self.assertEqual(list(trace(program, ((3,), (("b",), ("a", "c"))), ZERO)), [
            (0, ZERO), (1, ZERO), (2, ZERO), (3, ZERO), (3, (0, 2, 0)), (4, (1, 2, 3)),
        ])
        self.assertEqual(list(trace(program, ((3,), (("c",), ("b",), ("a",))), ZERO))[3:], [
            (3, ZERO), (3, (0, 0, 3)), (3, (0, 2, 3)), (4, (1, 2, 3)),
        ])

    def test_saves_without_groups_only_continue(self):
        program = (("a",), (("set", "a", 1), ("save",), ("save",), ("stop", "a")))
        for plan in [EMPTY, ((1,), ()), ((1, 2), ()), ((), (("a",),))]:
            self.assertEqual(list(trace(program, plan, (0,))), [(k, (0,)) for k in range(4)])
        self.assertEqual(list(trace(program, ((2,), (("a",),)), (0,))), [(0, (0,)), (1, (0,)), (2, (0,)), (3, (1,))])

    def test_stop_at_once(self):
        self.assertEqual(list(trace(AT_ONCE, EMPTY, (5,))), [(0, (5,))])

    def test_variables_that_are_not_saved_keep_their_values(self):
        for _, store in trace(TOTAL, TORN, (2, 3, 5)):
            self.assertEqual(store[2], 5)

    def test_most(self):
        every = list(trace(TOTAL, TORN, ZERO))
        self.assertEqual(len(every), 33)
        self.assertEqual(every, plain_trace(TOTAL, TORN, ZERO, 1000))
        for most in (0, 1, 2, 32, 33, 34, 1000000):
            self.assertEqual(list(trace(TOTAL, TORN, ZERO, most=most)), every[:most])

    def test_endless_run(self):
        self.assertEqual(len(list(trace(ROUND, EMPTY, (1, 0)))), 1000)
        plan = ((2, 6), (("a",), ("b",)))
        self.assertEqual(list(trace(ROUND, plan, (1, 0), most=50)), plain_trace(ROUND, plan, (1, 0), 50))

    def test_store_need_not_be_reachable(self):
        self.assertEqual(list(trace(TOTAL, WHOLE, (7, 7, 7))), plain_trace(TOTAL, WHOLE, (7, 7, 7), 1000))

    def test_against_the_plain_exploration(self):
        for seed in range(40):
            program = random_program(seed, 1 + seed % 3, 5 + seed % 5, 1 + seed % 3)
            for plan in every_plan(program)[::7]:
                store = tuple(seed % (k + 2) for k in range(len(program[0])))
                self.assertEqual(list(trace(program, plan, store, most=90)), plain_trace(program, plan, store, 90))

    def test_errors_come_with_the_first_pair(self):
        for value in ODD:
            for error, rows in [
                (InvalidProgram, (value, TORN, ZERO)), (InvalidPlan, (TOTAL, value, ZERO)), (InvalidStore, (TOTAL, TORN, value)),
            ]:
                pairs = trace(*rows)
                self.assertRaises(error, next, pairs)
        for most in [-1, 1000001, True, False, None, "3", [], (1,), {}]:
            pairs = trace(TOTAL, TORN, ZERO, most=most)
            self.assertRaises(InvalidNumber, next, pairs)
        self.assertRaises(InvalidStore, next, trace(TOTAL, TORN, (0, 0), most=0))
        self.assertRaises(StopIteration, next, trace(TOTAL, TORN, ZERO, most=0))

    def test_the_error_documented_first_is_raised(self):
        self.assertRaises(InvalidProgram, next, trace(None, None, None, most=None))
        self.assertRaises(InvalidPlan, next, trace(TOTAL, None, None, most=None))
        self.assertRaises(InvalidStore, next, trace(TOTAL, TORN, None, most=None))

    def test_most_is_passed_by_name(self):
        self.assertRaises(TypeError, trace, TOTAL, TORN, ZERO, 5)


class Replay(unittest.TestCase):
    def test_example(self):
        self.assertEqual(replay(TOTAL, TORN, ZERO, [17, 0]), [ZERO, (2, 0, 0), (2, 0, 0)])

    def test_no_crashes(self):
        self.assertEqual(replay(TOTAL, TORN, ZERO, []), [ZERO])
        self.assertEqual(replay(TOTAL, TORN, ZERO, ()), [ZERO])

    def test_torn_save(self):
        self.assertEqual([replay(TOTAL, TORN, ZERO, [k])[1] for k in (8, 9, 10, 17, 18)], [
            ZERO, (1, 0, 0), (1, 0, 0), (2, 0, 0), (2, 1, 0),
        ])

    def test_tuple_of_crashes(self):
        self.assertEqual(replay(TOTAL, TORN, ZERO, (17, 0)), replay(TOTAL, TORN, ZERO, [17, 0]))

    def test_other_values_begin_as_in_the_input(self):
        self.assertEqual(replay(TOTAL, WHOLE, (0, 0, 5), [9, 9]), [(0, 0, 5), (1, 0, 5), (2, 1, 5)])

    def test_no_crash_after_the_stop(self):
        self.assertEqual(replay(TOTAL, WHOLE, ZERO, [28]), [ZERO, (3, 3, 0)])
        self.assertEqual(replay(AT_ONCE, EMPTY, (5,), [0, 0]), [(5,), (5,), (5,)])
        self.assertIndex(0, AT_ONCE, EMPTY, (5,), [1])
        self.assertIndex(0, TOTAL, WHOLE, ZERO, [29])
        self.assertIndex(1, TOTAL, WHOLE, ZERO, [28, 8])
        self.assertEqual(len(replay(TOTAL, WHOLE, ZERO, [28, 7])), 3)

    def test_endless_runs(self):
        for plan in [((2, 6), (("a",),)), ((2, 6), (("a",), ("b",))), ((2,), (("a", "b"),)), ((6, 2)[::-1], (("b",), ("a",)))]:
            start = len(plain_trace(ROUND, plan, (0, 0), 100)) - 1
            stores = [store for _, store in plain_trace(ROUND, plan, replay(ROUND, plan, (0, 0), [start])[1], 20000)]
            for moves in [*range(90), 999, 1000, 1001, 15000, 19998, 19999]:
                self.assertEqual(replay(ROUND, plan, (0, 0), [start, moves])[2], stores[moves])

    def test_as_many_moves_as_allowed(self):
        # The saved value changes for ever between 1 and 3, and no run from it stops.
        endless = (("a", "b"), (
            ("if", "a", 4), ("set", "a", 1), ("save",), ("stop", "a"), ("set", "b", 4), ("sub", "a", "b", "a"),
            ("save",), ("go", 5),
        ))
        plan = ((2, 6), (("a",), ("b",)))
        found = replay(endless, plan, (0, 0), [3] + [1000000] * 40)
        self.assertEqual(len(found), 42)
        self.assertEqual(found[2], plain_trace(endless, plan, found[1], 1000001)[-1][1])

    def test_against_the_plain_exploration(self):
        for seed in range(60):
            program = random_program(seed, 1 + seed % 3, 5 + seed % 5, 1 + seed % 2)
            for plan in every_plan(program)[1::9]:
                for value in some_inputs(program, 2):
                    stores = [store for _, store in plain_trace(program, plan, value, 300)]
                    self.assertEqual([replay(program, plan, value, [k])[1] for k in range(len(stores))], stores)
                    self.assertIndex(0, program, plan, value, [len(stores)])
                    middle = stores[len(stores) // 2]
                    later = [store for _, store in plain_trace(program, plan, middle, 200)]
                    for k, store in enumerate(later):
                        found = replay(program, plan, value, [len(stores) // 2, k])
                        self.assertEqual(found, [value, middle, store])

    def assertIndex(self, index, *rows):
        with self.assertRaises(InvalidCrashes) as caught:
            replay(*rows)
        self.assertEqual(caught.exception.index, index)

    def test_index_of_invalid_crashes(self):
        for value in [None, True, 5, "5", b"5", {}, {5: 1}, set(), object()]:
            self.assertIndex(None, TOTAL, TORN, ZERO, value)
        for value in [None, True, False, "5", -1, 1000001, 10 ** 30, [], (5,), {}, object()]:
            self.assertIndex(0, TOTAL, TORN, ZERO, [value])
            self.assertIndex(0, TOTAL, TORN, ZERO, [value, None, 99])
            self.assertIndex(2, TOTAL, TORN, ZERO, (9, 0, value))
        self.assertIndex(0, TOTAL, TORN, ZERO, [33, None])
        self.assertIndex(1, TOTAL, TORN, ZERO, [32, 99, True])
        self.assertIndex(1, TOTAL, TORN, ZERO, [0, True, 33])

    def test_errors(self):
        for value in ODD:
            self.assertRaises(InvalidProgram, replay, value, TORN, ZERO, [])
            self.assertRaises(InvalidPlan, replay, TOTAL, value, ZERO, [])
            self.assertRaises(NotInput, replay, TOTAL, TORN, value, [])
        for value in [(0, 0), (0, 0, 8), (0, 0, True), [0, 0, 0]]:
            self.assertRaises(NotInput, replay, TOTAL, TORN, value, [])
        self.assertRaises(NotInput, replay, ROUND, EMPTY, (1, 0), [])

    def test_the_error_documented_first_is_raised(self):
        self.assertRaises(InvalidProgram, replay, None, None, None, None)
        self.assertRaises(InvalidPlan, replay, TOTAL, None, None, None)
        self.assertRaises(NotInput, replay, TOTAL, TORN, None, None)

    def test_arguments_are_not_changed_and_not_kept(self):
        crashes = [17, 0]
        found = replay(TOTAL, TORN, ZERO, crashes)
        self.assertEqual(crashes, [17, 0])
        found.append(None)
        crashes.append(None)
        self.assertEqual(replay(TOTAL, TORN, ZERO, [17, 0]), [ZERO, (2, 0, 0), (2, 0, 0)])

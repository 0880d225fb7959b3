"""Point 19: executions, move by move and crash by crash."""

import inspect
import random
import unittest
from unittest.mock import ANY

from tests.reference import (
    EMPTY, ODD, TOTAL, TORN, WHOLE, ZERO, Hostile, after_move, every_plan, on_the_way, random_program, some_inputs,
)
from tests.test_deciding import COUNTED, ROUND
from tornsaves.errors import InvalidCrashes, InvalidMove, InvalidPlan, InvalidProgram, NotInput
from tornsaves.executions import Execution
from tornsaves.programs import plain
from tornsaves.runs import replay

# Two groups are written at step 2.
SHORT = (("a", "b"), (("set", "a", 1), ("set", "b", 2), ("save",), ("add", "a", "a", "b"), ("stop", "a")))
HALVES = ((2,), (("a",), ("b",)))
START = (0, 0)
# The only step is a stop.
AT_ONCE = (("a",), (("stop", "a"),))
BAD_EVENTS = ["", "moves", "Move", "stop", "move ", "m", b"move", None, True, 0, 1, ["move"], ("move",), {}, set(), ANY, Hostile(), len]


def looks(execution):
    """All that an execution shows."""
    return execution.state, execution.is_over, execution.history, execution.result


class Beginning(unittest.TestCase):
    def test_of_an_execution(self):
        for program, plan, value in [(TOTAL, TORN, ZERO), (TOTAL, WHOLE, (2, 1, 7)), (AT_ONCE, EMPTY, (5,)), (SHORT, HALVES, START)]:
            self.assertEqual(looks(Execution(program, plan, value)), ((0, value, value), False, [], None))

    def test_no_crashes(self):
        for crashes in ([], ()):
            self.assertEqual(looks(Execution.after(TOTAL, TORN, ZERO, crashes)), ((0, ZERO, ZERO), False, [], None))


class Moves(unittest.TestCase):
    def test_move_by_move(self):
        execution = Execution(SHORT, HALVES, START)
        for state in [
            (1, (1, 0), (0, 0)), (2, (1, 2), (0, 0)), (2, (1, 2), (1, 0), 1), (3, (1, 2), (1, 2)), (4, (3, 2), (1, 2)),
        ]:
            self.assertEqual(execution.move(), state)
            self.assertEqual(looks(execution), (state, False, [], None))
        self.assertEqual(execution.move(), (None, (3, 2), (1, 2)))
        self.assertEqual(looks(execution), ((None, (3, 2), (1, 2)), True, [], 3))

    def test_states_are_tuples(self):
        execution = Execution(SHORT, HALVES, START)
        for _ in range(6):
            self.assertIs(type(execution.state), tuple)
            self.assertIs(type(execution.is_over), bool)
            self.assertIs(type(execution.move()), tuple)

    def test_result_of_0(self):
        execution = Execution(AT_ONCE, EMPTY, (0,))
        self.assertIsNone(execution.result)
        self.assertEqual(execution.move(), (None, (0,), (0,)))
        self.assertEqual(looks(execution), ((None, (0,), (0,)), True, [], 0))
        self.assertIs(type(execution.result), int)

    def test_one_group_is_written_at_once(self):
        execution = Execution(SHORT, ((2,), (("a", "b"),)), START)
        self.assertEqual([execution.move() for _ in range(3)][2], (3, (1, 2), (1, 2)))

    def test_saves_without_groups_only_continue(self):
        for plan in [EMPTY, ((2,), ()), ((), (("a",), ("b",)))]:
            execution = Execution(SHORT, plan, START)
            self.assertEqual([execution.move() for _ in range(3)][2], (3, (1, 2), (0, 0)))

    def test_three_groups(self):
        program = (("a", "b", "c"), (("set", "b", 4), ("save",), ("stop", "b")))
        execution = Execution(program, ((1,), (("c",), ("b",), ("a",))), (1, 2, 3))
        self.assertEqual([execution.move() for _ in range(5)], [
            (1, (1, 4, 3), (1, 2, 3)), (1, (1, 4, 3), (1, 2, 3), 1), (1, (1, 4, 3), (1, 4, 3), 2), (2, (1, 4, 3), (1, 4, 3)),
            (None, (1, 4, 3), (1, 4, 3)),
        ])

    def test_example(self):
        execution = Execution.after(TOTAL, TORN, ZERO, [9])
        self.assertEqual((execution.state, execution.move(), execution.history), (
            (0, (1, 0, 0), (1, 0, 0)), (0, (1, 0, 0), (1, 0, 0), 1), [9],
        ))

    def test_no_move_after_the_stop(self):
        execution = Execution(SHORT, HALVES, START)
        for _ in range(6):
            execution.move()
        found = looks(execution)
        for _ in range(2):
            self.assertRaises(InvalidMove, execution.move)
            self.assertRaises(InvalidMove, execution.crash)
            self.assertEqual(looks(execution), found)


class Crashes(unittest.TestCase):
    def test_after_0_moves(self):
        execution = Execution(SHORT, HALVES, START)
        self.assertEqual(execution.crash(), (0, START, START))
        self.assertEqual(execution.crash(), (0, START, START))
        self.assertEqual(looks(execution), ((0, START, START), False, [0, 0], None))

    def test_within_a_save(self):
        execution = Execution(SHORT, HALVES, START)
        self.assertEqual([execution.move() for _ in range(3)][2], (2, (1, 2), (1, 0), 1))
        self.assertEqual(execution.crash(), (0, (1, 0), (1, 0)))
        self.assertEqual(execution.history, [3])
        self.assertEqual([execution.move() for _ in range(4)][3], (3, (1, 2), (1, 2)))

    def test_just_ahead_of_the_stop(self):
        execution = Execution(SHORT, HALVES, START)
        self.assertEqual([execution.move() for _ in range(5)][4][0], 4)
        self.assertEqual(execution.crash(), (0, (1, 2), (1, 2)))
        self.assertEqual(looks(execution), ((0, (1, 2), (1, 2)), False, [5], None))

    def test_moves_are_counted_from_the_last_crash(self):
        execution = Execution(SHORT, HALVES, START)
        for many in (2, 0, 5, 3):
            for _ in range(many):
                execution.move()
            execution.crash()
        self.assertEqual(execution.history, [2, 0, 5, 3])
        execution.move()
        self.assertEqual(execution.history, [2, 0, 5, 3])

    def test_values_that_are_not_saved_begin_as_in_the_input(self):
        execution = Execution(TOTAL, WHOLE, (0, 0, 5))
        for _ in range(9):
            execution.move()
        self.assertEqual(execution.crash(), (0, (1, 0, 5), (1, 0, 5)))

    def test_history_is_kept_after_the_stop(self):
        execution = Execution.after(SHORT, HALVES, START, [3])
        list(execution.moves(9))
        self.assertEqual(looks(execution), ((None, (3, 2), (1, 2)), True, [3], 3))


class After(unittest.TestCase):
    def test_is_as_move_by_move(self):
        for crashes in [[0], [3], [5, 0, 3], (4, 4), [2, 2, 2, 2, 5]]:
            execution = Execution(SHORT, HALVES, START)
            for many in crashes:
                for _ in range(many):
                    execution.move()
                execution.crash()
            made = Execution.after(SHORT, HALVES, START, crashes)
            self.assertIsInstance(made, Execution)
            self.assertEqual(looks(made), looks(execution))
            self.assertEqual(made.history, list(crashes))
            made.move()
            made.crash()
            self.assertEqual(made.history, [*crashes, 1])

    def test_is_of_the_class_that_is_asked(self):
        class Own(Execution):
            pass

        self.assertIs(type(Own.after(SHORT, HALVES, START, [1])), Own)
        self.assertIs(type(Execution.after(SHORT, HALVES, START, [1])), Execution)

    def test_endless_runs(self):
        found = Execution.after(ROUND, COUNTED, (0, 0), [3, 1000000])
        self.assertEqual(found.history, [3, 1000000])
        self.assertEqual(found.state, (0, (1, 0), (1, 0)))
        plan = ((2, 6), (("a",), ("b",)))
        execution = Execution.after(ROUND, plan, (0, 0), [3])
        for many in (1, 2, 7, 39, 40, 41, 999):
            made = Execution.after(ROUND, plan, (0, 0), [3, many])
            self.assertEqual(len(list(execution.moves(many))), many)
            self.assertEqual(made.state, execution.crash())
            execution = Execution.after(ROUND, plan, (0, 0), [3])

    def assertIndex(self, index, crashes):
        with self.assertRaises(InvalidCrashes) as caught:
            Execution.after(SHORT, HALVES, START, crashes)
        self.assertEqual(caught.exception.index, index)

    def test_index_of_invalid_crashes(self):
        for value in [None, True, 5, "5", b"5", {}, {5: 1}, set(), object(), ANY, Hostile()]:
            self.assertIndex(None, value)
        for value in [None, True, False, "5", -1, 6, 1000000, 1000001, 10 ** 30, [], (5,), {}, object(), ANY, Hostile()]:
            self.assertIndex(0, [value])
            self.assertIndex(1, [5, value])
            self.assertIndex(2, (3, 0, value, None))
        self.assertIndex(1, [5, 6, True])
        self.assertIndex(1, [5, True, 6])


class Generator(unittest.TestCase):
    def test_yields_each_state_up_to_and_including_the_stop(self):
        states = [
            (1, (1, 0), (0, 0)), (2, (1, 2), (0, 0)), (2, (1, 2), (1, 0), 1), (3, (1, 2), (1, 2)), (4, (3, 2), (1, 2)),
            (None, (3, 2), (1, 2)),
        ]
        for limit in range(10):
            execution = Execution(SHORT, HALVES, START)
            self.assertEqual(list(execution.moves(limit)), states[:limit])
            self.assertEqual(looks(execution), (
                [(0, START, START), *states][min(limit, 6)], limit >= 6, [], 3 if limit >= 6 else None,
            ))
            self.assertEqual(list(execution.moves(limit)), states[limit:2 * limit])

    def test_yields_nothing_after_the_stop(self):
        execution = Execution(AT_ONCE, EMPTY, (5,))
        self.assertEqual(list(execution.moves(0)), [])
        self.assertIs(execution.is_over, False)
        self.assertEqual(list(execution.moves(1000)), [(None, (5,), (5,))])
        for limit in (0, 1, 1000):
            self.assertEqual(list(execution.moves(limit)), [])

    def test_one_move_at_a_time(self):
        execution = Execution(SHORT, HALVES, START)
        rows = execution.moves(4)
        self.assertTrue(inspect.isgenerator(rows))
        self.assertEqual(execution.state, (0, START, START))
        self.assertEqual(next(rows), (1, (1, 0), (0, 0)))
        self.assertEqual(execution.state, (1, (1, 0), (0, 0)))
        execution.crash()
        self.assertEqual(execution.history, [1])
        self.assertEqual(list(rows), [(1, (1, 0), (0, 0)), (2, (1, 2), (0, 0)), (2, (1, 2), (1, 0), 1)])

    def test_the_stop_may_come_in_between(self):
        execution = Execution(SHORT, HALVES, START)
        rows = execution.moves(9)
        next(rows)
        for _ in range(5):
            execution.move()
        self.assertEqual(list(rows), [])
        self.assertEqual(execution.result, 3)

    def test_moves_are_counted(self):
        execution = Execution(SHORT, HALVES, START)
        list(execution.moves(3))
        execution.move()
        execution.crash()
        self.assertEqual(execution.history, [4])


class Tried(unittest.TestCase):
    def test_states(self):
        execution = Execution(SHORT, HALVES, START)
        found = looks(execution)
        for events, state in [
            ((), (0, START, START)), (("move",), (1, (1, 0), (0, 0))), (("crash",), (0, START, START)),
            (("move",) * 3, (2, (1, 2), (1, 0), 1)), (("move",) * 3 + ("crash",), (0, (1, 0), (1, 0))),
            (("move",) * 6, (None, (3, 2), (1, 2))), (("crash", "move", "crash", "move", "move"), (2, (1, 2), (0, 0))),
            (("move",) * 5 + ("crash",) + ("move",) * 6, (None, (3, 2), (1, 2))),
        ]:
            self.assertEqual(execution.tried(*events), state)
            self.assertEqual(looks(execution), found)

    def test_within_a_save_and_after_the_stop(self):
        execution = Execution(SHORT, HALVES, START)
        list(execution.moves(3))
        self.assertEqual(execution.tried(), (2, (1, 2), (1, 0), 1))
        self.assertEqual(execution.tried("crash"), (0, (1, 0), (1, 0)))
        self.assertEqual(execution.move(), (3, (1, 2), (1, 2)))
        list(execution.moves(9))
        self.assertEqual(execution.tried(), (None, (3, 2), (1, 2)))
        for event in ("move", "crash"):
            self.assertRaises(InvalidMove, execution.tried, event)

    def test_moves_are_not_counted(self):
        execution = Execution(SHORT, HALVES, START)
        execution.move()
        execution.tried("move", "move", "crash", "move")
        execution.crash()
        self.assertEqual(looks(execution), ((0, START, START), False, [1], None))

    def test_events_that_are_not_possible(self):
        execution = Execution.after(SHORT, HALVES, START, [3])
        execution.move()
        found = looks(execution)
        for events in [("move",) * 6, ("move",) * 5 + ("crash",), ("crash",) + ("move",) * 7, ("move",) * 5 + ("stop",)]:
            self.assertRaises(InvalidMove, execution.tried, *events)
            self.assertEqual(looks(execution), found)

    def test_events_of_other_kinds(self):
        execution = Execution(SHORT, HALVES, START)
        found = looks(execution)
        for event in BAD_EVENTS:
            for events in [(event,), ("move", event), (event, "move"), ("crash", "move", event)]:
                self.assertRaises(InvalidMove, execution.tried, *events)
                self.assertEqual(looks(execution), found)
        self.assertRaises(TypeError, execution.tried, events=("move",))


class Several(unittest.TestCase):
    def test_histories_are_new(self):
        execution = Execution.after(SHORT, HALVES, START, [3, 2])
        execution.history.clear()
        execution.history.append(None)
        self.assertIsNot(execution.history, execution.history)
        self.assertEqual(execution.history, [3, 2])
        execution.crash()
        self.assertEqual(execution.history, [3, 2, 0])

    def test_crashes_are_copied(self):
        crashes = [3, 2]
        execution = Execution.after(SHORT, HALVES, START, crashes)
        crashes.append(None)
        self.assertEqual(execution.history, [3, 2])
        execution.crash()
        self.assertEqual(crashes, [3, 2, None])

    def test_executions_share_nothing(self):
        crashes = [3]
        rows = [Execution.after(SHORT, HALVES, START, crashes) for _ in range(2)]
        rows += [Execution(SHORT, HALVES, START) for _ in range(2)]
        found = [looks(execution) for execution in rows]
        for k, execution in enumerate(rows):
            execution.move()
            execution.crash()
            list(execution.moves(9))
            self.assertEqual([looks(other) for other in rows[k + 1:]], found[k + 1:])
            self.assertEqual(execution.history, [3, 1] if k < 2 else [1])


class Errors(unittest.TestCase):
    def test_each_error(self):
        for call in (Execution, lambda *rows: Execution.after(*rows, [])):
            for value in ODD:
                self.assertRaises(InvalidProgram, call, value, TORN, ZERO)
                self.assertRaises(InvalidPlan, call, TOTAL, value, ZERO)
                self.assertRaises(NotInput, call, TOTAL, TORN, value)
            for value in [(0, 0), (0, 0, 8), (0, 0, True), [0, 0, 0], (0, 0, "0")]:
                self.assertRaises(NotInput, call, TOTAL, TORN, value)
            self.assertRaises(NotInput, call, ROUND, EMPTY, (1, 0))

    def test_the_error_documented_first_is_raised(self):
        self.assertRaises(InvalidProgram, Execution, None, None, None)
        self.assertRaises(InvalidPlan, Execution, TOTAL, None, None)
        self.assertRaises(InvalidProgram, Execution.after, None, None, None, None)
        self.assertRaises(InvalidPlan, Execution.after, TOTAL, None, None, None)
        self.assertRaises(NotInput, Execution.after, TOTAL, TORN, None, None)


class Plainly:
    """A run of its own, told the same events."""

    def __init__(self, program, plan, value):
        self.program, self.plan = program, plan
        self.situation, self.history = (0, value, value, 0), [0]

    def does(self, event):
        if event == "move":
            self.last = self.program[1][self.situation[0]]
            self.situation = after_move(self.program, self.plan, self.situation)
            self.history[-1] += 1
        else:
            self.situation = (0, self.situation[2], self.situation[2], 0)
            self.history.append(0)

    def looks(self):
        step, values, store, written = self.situation
        state = (step, values, store, written) if written else (step, values, store)
        result = values[self.program[0].index(self.last[1])] if step is None else None
        return state, step is None, self.history[:-1], result


class AgainstThePlainExploration(unittest.TestCase):
    def test_events_at_random(self):
        ends = 0
        for seed in range(120):
            source = random.Random(seed)
            program = random_program(seed, 1 + seed % 4, 5 + seed % 6, 1 + seed % 3)
            for value in some_inputs(program, 2):
                plan = source.choice(every_plan(program) if seed % 4 < 3 else [EMPTY])
                execution, other = Execution(program, plan, value), Plainly(program, plan, value)
                for _ in range(60):
                    event = source.choice(["move"] * 9 + ["crash"])
                    if other.situation[0] is None:
                        ends += 1
                        self.assertIsNotNone(execution.result)
                        self.assertRaises(InvalidMove, execution.crash)
                        break
                    tried = execution.tried(event)
                    other.does(event)
                    self.assertEqual(execution.move() if event == "move" else execution.crash(), other.looks()[0])
                    self.assertEqual(looks(execution), other.looks())
                    self.assertEqual(tried, execution.state)
                stores = replay(program, plan, value, execution.history)
                self.assertEqual(Execution.after(program, plan, value, execution.history).state, (0, stores[-1], stores[-1]))
        self.assertGreater(ends, 60)

    def test_runs_up_to_the_stop(self):
        for seed in range(60):
            program = random_program(seed, 1 + seed % 3, 5 + seed % 5, 1 + seed % 3)
            for plan in every_plan(program)[seed % 5::9]:
                for value in some_inputs(program, 2):
                    execution = Execution(program, plan, value)
                    stores = [value] + [state[2] for state in execution.moves(10 ** 6)]
                    self.assertEqual(stores[:-1], on_the_way(program, plan, value))
                    self.assertEqual(execution.result, plain(program, value)[0])
                    self.assertIs(execution.is_over, True)

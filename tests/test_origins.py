"""Point 18: the inputs from which a plan can reach a store, and the first shortest lists of crashes."""

import itertools
import unittest

from tests.reference import (
    EMPTY, ODD, TOTAL, TORN, WHOLE, ZERO, end, every_plan, first_runs, guarded_program, on_the_way, random_program,
    runs_up_to, some_inputs,
)
from tests.test_deciding import BAD_INPUTS, COUNTED, MANY_CRASHES, ROUND, STARTS
from tornsaves.errors import InvalidPlan, InvalidProgram, InvalidStore, NotInput
from tornsaves.origins import origins
from tornsaves.runs import replay

# From (0, 0), 4 moves lead to (1, 0), and 7 moves lead to (0, 1); from there 7 moves, or 3, lead to (1, 1).
TWO_WAYS = (("a", "b"), (
    ("if", "b", 11), ("if", "a", 8), ("set", "a", 1), ("save",), ("set", "a", 0), ("set", "b", 1), ("save",), ("stop", "a"),
    ("copy", "a", "a"), ("copy", "b", "b"), ("set", "b", 1), ("set", "a", 1), ("save",), ("stop", "a"),
))
# Programs and indices of plans with which many stores are reached on several ways with equally many crashes.
MANY_WAYS = [
    (random_program(6247, 3, 7, 2), 72), (random_program(6247, 3, 7, 2), 46), (random_program(1634, 2, 8, 3), 35),
    (random_program(8681, 3, 11, 3), 153), (random_program(8681, 3, 11, 3), 140), (random_program(8291, 3, 11, 3), 88),
    (random_program(8291, 3, 11, 3), 62), (random_program(1967, 3, 11, 3), 173), (random_program(5693, 3, 11, 3), 168),
    (random_program(3505, 3, 7, 2), 73), (guarded_program(9455, 3, 4, 3), 134), (guarded_program(9455, 3, 4, 3), 173),
    (guarded_program(8197, 3, 2, 2), 59),
]


def all_stores(program):
    return itertools.product(range(8), repeat=len(program[0]))


class Origins(unittest.TestCase):
    def test_the_input_itself(self):
        for plan in (TORN, WHOLE, EMPTY):
            self.assertEqual(origins(TOTAL, plan, [ZERO], ZERO), [(ZERO, [])])
        self.assertEqual(origins(TOTAL, WHOLE, [(2, 1, 0), ZERO], ZERO), [(ZERO, [])])
        self.assertEqual(origins(TOTAL, WHOLE, [(0, 0, 1), ZERO], ZERO), [(ZERO, [])])

    def test_stores_of_one_run(self):
        self.assertEqual(origins(TOTAL, WHOLE, [ZERO], (1, 0, 0)), [(ZERO, [8])])
        self.assertEqual(origins(TOTAL, WHOLE, [ZERO], (2, 1, 0)), [(ZERO, [15])])
        self.assertEqual(origins(TOTAL, WHOLE, [ZERO], (3, 3, 0)), [(ZERO, [22])])
        self.assertEqual(origins(TOTAL, TORN, [ZERO], (2, 0, 0)), [(ZERO, [17])])

    def test_stores_that_cannot_be_reached(self):
        self.assertEqual(origins(TOTAL, WHOLE, [ZERO], (2, 0, 0)), [])
        self.assertEqual(origins(TOTAL, WHOLE, [ZERO], (0, 0, 1)), [])
        for plan in [EMPTY, ((0,), ()), ((), (("i",), ("s",)))]:
            self.assertEqual(origins(TOTAL, plan, [ZERO], (1, 0, 0)), [])

    def test_several_inputs_in_their_order(self):
        inputs = [(1, 0, 0), (3, 3, 0), ZERO, (4, 0, 0)]
        self.assertEqual(origins(TOTAL, WHOLE, inputs, (3, 3, 0)), [((1, 0, 0), [15]), ((3, 3, 0), []), (ZERO, [22])])
        self.assertEqual(origins(TOTAL, WHOLE, tuple(inputs[::-1]), (3, 3, 0)), [
            (ZERO, [22]), ((3, 3, 0), []), ((1, 0, 0), [15]),
        ])

    def test_several_crashes(self):
        self.assertEqual(origins(STARTS, COUNTED, [(0, 0)], (3, 0)), [((0, 0), [3, 3, 3])])
        # The second start is the last one that stops, and the third one still saves.
        self.assertEqual(origins(STARTS, COUNTED, [(0, 0), (1, 0)], (4, 0)), [
            ((0, 0), [3, 3, 3, 3]), ((1, 0), [3, 3, 3]),
        ])
        self.assertEqual(origins(STARTS, COUNTED, [(1, 0), (0, 0)], (0, 0))[0], ((1, 0), [3] * 7))

    def test_the_first_list_among_the_shortest(self):
        plan = ((3, 6, 12), (("a", "b"),))
        rows = [crashes for crashes, store in runs_up_to(TWO_WAYS, plan, (0, 0), 2) if store == (1, 1)]
        self.assertEqual(rows, [[4, 7], [5, 7], [6, 7], [7, 3]])
        self.assertEqual(origins(TWO_WAYS, plan, [(0, 0)], (1, 1)), [((0, 0), [4, 7])])
        self.assertEqual(origins(TWO_WAYS, plan, [(0, 1), (0, 0), (1, 0)], (1, 1)), [
            ((0, 1), [3]), ((0, 0), [4, 7]), ((1, 0), [7]),
        ])

    def test_runs_that_do_not_stop(self):
        for plan in [COUNTED, ((2, 6), (("a",),)), ((2, 6), (("a",), ("b",))), ((6,), (("b",), ("a",)))]:
            known = first_runs(ROUND, plan, (0, 0))
            for store in all_stores(ROUND):
                rows = [((0, 0), known[store])] if store in known else []
                self.assertEqual(origins(ROUND, plan, [(0, 0)], store), rows)

    def test_the_second_round_writes_other_stores(self):
        # The run from (1, 0, 0) goes round for ever; only from the second round on, b is 2 when a is written.
        program = (("a", "b", "c"), (
            ("if", "a", 4), ("set", "a", 1), ("save",), ("stop", "c"),
            ("set", "a", 3), ("set", "b", 1), ("save",), ("set", "a", 4), ("set", "b", 2), ("save",), ("go", 4),
        ))
        plan = ((2, 6, 9), (("a",), ("b",)))
        for store, crashes in [
            ((3, 0, 0), [3, 4]), ((3, 1, 0), [3, 5]), ((4, 1, 0), [3, 8]), ((4, 2, 0), [3, 9]), ((3, 2, 0), [3, 13]),
        ]:
            self.assertEqual(origins(program, plan, [ZERO], store), [(ZERO, crashes)])
            self.assertEqual(replay(program, plan, ZERO, crashes)[-1], store)

    def test_long_runs(self):
        count = (("a", "b", "c", "d"), (
            ("save",), ("set", "d", 1), ("add", "a", "a", "d"), ("if", "a", 0), ("save",), ("add", "b", "b", "d"),
            ("if", "b", 0), ("save",), ("add", "c", "c", "d"), ("if", "c", 0), ("stop", "c"),
        ))
        plan = ((0, 4, 7), (("d",), ("c",), ("b",), ("a",)))
        inputs = [(k, 0, 0, 0) for k in range(4)]
        for store in [(7, 7, 7, 1), (0, 7, 7, 1), (7, 0, 0, 0), (5, 6, 7, 1)]:
            for value, crashes in origins(count, plan, inputs, store):
                self.assertEqual(replay(count, plan, value, crashes)[-1], store)
        self.assertEqual(origins(count, plan, inputs, (1, 1, 1, 7)), [])

    def compare(self, program, plan, inputs):
        """Compares all origins with those found by trying all numbers; returns the greatest number of crashes."""
        known = {value: first_runs(program, plan, value) for value in inputs}
        for store in all_stores(program):
            rows = [(value, known[value][store]) for value in inputs if store in known[value]]
            self.assertEqual(origins(program, plan, inputs, store), rows, (program, plan, inputs, store))
        return max(len(crashes) for found in known.values() for crashes in found.values())

    def test_against_the_plain_exploration(self):
        most = []
        for program, k in MANY_WAYS:
            most.append(self.compare(program, every_plan(program)[k], some_inputs(program, 1)))
        for seed in range(70):
            program = random_program(seed, 1 + seed % 2, 5 + seed % 5, 1 + seed % 3)
            inputs = some_inputs(program, 1 + seed % 3)
            for plan in every_plan(program)[seed % 3::5] if inputs else []:
                most.append(self.compare(program, plan, inputs))
        for rows in MANY_CRASHES[1:]:
            program = random_program(*rows)
            inputs = some_inputs(program, 2)
            for plan in every_plan(program)[::4] if len(program[0]) == 2 else every_plan(program)[60::90]:
                most.append(self.compare(program, plan, inputs))
        for least, many in [(0, 200), (1, 70), (2, 30), (4, 20), (9, 5)]:
            self.assertGreaterEqual(len([size for size in most if size >= least]), many, least)

    def few_crashes(self):
        """Programs, plans, inputs, and numbers of crashes."""
        for program, k in MANY_WAYS:
            yield program, every_plan(program)[k], some_inputs(program, 1)[0], 2
        for seed in range(80):
            program = guarded_program(seed, 2 + seed % 2, 1 + seed % 3, 1 + seed % 2)
            for value in some_inputs(program, 1):
                for plan in every_plan(program)[1 + seed % 7::11]:
                    yield program, plan, value, 3

    def test_against_all_runs_with_few_crashes(self):
        sizes, endless = [], 0
        for program, plan, value, most in self.few_crashes():
            known = {}
            for crashes, store in runs_up_to(program, plan, value, most):
                known.setdefault(store, crashes)
            for store, crashes in known.items():
                self.assertEqual(origins(program, plan, [value], store), [(value, crashes)])
                endless += end(program, 0, store) is None
                sizes.append(len(crashes))
        for size, many in [(0, 80), (1, 100), (2, 50), (3, 10)]:
            self.assertGreater(sizes.count(size), many, size)
        self.assertGreater(endless, 50)

    def test_lists_describe_runs(self):
        program = random_program(3742, 2, 10, 2)
        for plan in every_plan(program):
            for value in some_inputs(program, 2):
                for store in all_stores(program):
                    for start, crashes in origins(program, plan, [value], store):
                        self.assertEqual(start, value)
                        self.assertEqual(replay(program, plan, value, crashes)[-1], store)

    def test_arguments_are_not_changed_and_answers_are_new(self):
        inputs = [ZERO, (1, 0, 0)]
        found = origins(TOTAL, WHOLE, inputs, (2, 1, 0))
        self.assertEqual(inputs, [ZERO, (1, 0, 0)])
        self.assertIs(type(found), list)
        for pair in found:
            self.assertIs(type(pair), tuple)
            pair[1].append(None)
        found.clear()
        self.assertEqual(origins(TOTAL, WHOLE, inputs, (2, 1, 0)), [(ZERO, [15]), ((1, 0, 0), [8])])


class Errors(unittest.TestCase):
    def test_each_error(self):
        for value in ODD:
            self.assertRaises(InvalidProgram, origins, value, WHOLE, [ZERO], ZERO)
            self.assertRaises(InvalidPlan, origins, TOTAL, value, [ZERO], ZERO)
            self.assertRaises(InvalidStore, origins, TOTAL, WHOLE, [ZERO], value)
        for value in BAD_INPUTS:
            self.assertRaises(NotInput, origins, TOTAL, WHOLE, value, ZERO)
        self.assertRaises(NotInput, origins, ROUND, EMPTY, [(0, 0), (1, 0)], (0, 0))
        for value in [(0, 0), (0, 0, 0, 0), (0, 0, 8), (0, 0, True), (0, 0, -1), [0, 0, 0], "000", [ZERO]]:
            self.assertRaises(InvalidStore, origins, TOTAL, WHOLE, [ZERO], value)

    def test_stores_that_are_no_inputs(self):
        self.assertEqual(origins(ROUND, COUNTED, [(0, 0)], (1, 0)), [((0, 0), [3])])

    def test_the_error_documented_first_is_raised(self):
        self.assertRaises(InvalidProgram, origins, None, None, None, None)
        self.assertRaises(InvalidPlan, origins, TOTAL, None, None, None)
        self.assertRaises(NotInput, origins, TOTAL, WHOLE, None, None)
        self.assertRaises(NotInput, origins, TOTAL, WHOLE, [], (0, 0))

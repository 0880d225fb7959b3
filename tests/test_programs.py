"""Points 1 to 3."""

import unittest
from unittest.mock import ANY

from tests.reference import ODD, TOTAL, ZERO, Hostile, end, random_program
from tornsaves.errors import InvalidProgram, InvalidStore
from tornsaves.programs import is_program, plain, save_steps

STOP = ("stop", "a")


def program(*steps, names=("a", "b")):
    return names, steps


class IsProgram(unittest.TestCase):
    def assertYes(self, value):
        self.assertIs(is_program(value), True, value)

    def assertNo(self, value):
        self.assertIs(is_program(value), False, value)

    def test_example(self):
        self.assertYes(TOTAL)

    def test_values_of_other_kinds(self):
        for value in ODD:
            self.assertNo(value)
        for value in [(TOTAL,), TOTAL + ((),), list(TOTAL), (list(TOTAL[0]), TOTAL[1]), (TOTAL[0], list(TOTAL[1]))]:
            self.assertNo(value)

    def test_all_kinds_of_steps(self):
        for step in [
            ("set", "a", 0), ("set", "b", 7), ("copy", "a", "b"), ("copy", "a", "a"), ("add", "a", "b", "a"),
            ("sub", "a", "a", "a"), ("less", "b", "a", "b"), ("if", "b", 0), ("if", "a", 1), ("go", 1), ("save",), STOP,
        ]:
            self.assertYes(program(step, STOP))

    def test_steps_of_other_forms(self):
        for step in [
            ("set", "a", 8), ("set", "a", -1), ("set", "a", True), ("set", "a", "b"), ("set", 0, 1), ("set", "c", 1),
            ("set", "a"), ("set", "a", 1, 1), ("set", "a", None), ("set", "a", (1,)), ("copy", "a", "c"),
            ("copy", "a", 1), ("copy", "a", ["b"]), ("copy", "a", "b", "b"), ("add", "a", "b"), ("add", "a", "b", 1),
            ("add", "a", "b", "c"), ("sub", "a", "b", "b", "b"), ("sub", "c", "b", "b"), ("less", "a", 1, "b"),
            ("less", "a", "b"), ("if", "a", 2), ("if", "a", -1), ("if", "a", False), ("if", "c", 0), ("if", "a"),
            ("if", 0, "a"), ("go", 2), ("go", -1), ("go", True), ("go",), ("go", "a"), ("save", "a"), ("save", ()),
            ("stop",), ("stop", "c"), ("stop", 0), ("stop", "a", "b"), ("mul", "a", "b", "b"), (), ("",), ("Set", "a", 1),
            ["save"], "save", ("set", ["a"], 1), (["save"],), (("save",),), ({},), (None,), None, 5, True, {"save": 1},
            ("set", "ab", 1), ("set", "", 1), (ANY,), (Hostile(),), ("copy", "a", ANY), ("copy", "a", Hostile()),
            ("set", "a", ANY), ("set", "a", Hostile()), ("go", Hostile()), ("if", ANY, 0),
        ]:
            self.assertNo(program(step, STOP))

    def test_names(self):
        for name in ["a", "z", "abcdefgh", "zz"]:
            self.assertYes(((name,), (("stop", name),)))
        for name in ["", "abcdefghi", "A", "aB", "a1", "a_", "a b", " a", "a\n", "\u00e4", "\u03b1", 1, None, b"a", ("a",)]:
            self.assertNo(((name,), (("stop", name),)))

    def test_variables(self):
        self.assertYes(program(STOP, names=("a", "b", "c", "d")))
        self.assertNo(program(STOP, names=("a", "b", "c", "d", "e")))
        self.assertNo(program(STOP, names=()))
        self.assertNo(program(("go", 0), names=()))
        for names in [("a", "b", "a"), ("a", "a"), "ab", {"a": 1}, ("a", ["b"]), ("a", {}), None]:
            self.assertNo(program(STOP, names=names))

    def test_number_of_steps(self):
        self.assertYes(program(*[("copy", "a", "b")] * 15, STOP))
        self.assertNo(program(*[("copy", "a", "b")] * 16, STOP))
        self.assertNo(program())
        self.assertYes(program(*[("go", 15)] * 16))
        self.assertNo(program(*[("go", 16)] * 16))

    def test_number_of_saves(self):
        self.assertYes(program(*[("save",)] * 3, STOP))
        self.assertNo(program(*[("save",)] * 4, STOP))

    def test_last_step(self):
        self.assertYes(program(("go", 0)))
        for step in [("save",), ("set", "a", 0), ("copy", "a", "b"), ("add", "a", "b", "b"), ("if", "a", 0)]:
            self.assertNo(program(STOP, step))
            self.assertNo(program(step))


class SaveSteps(unittest.TestCase):
    def test_answers(self):
        self.assertEqual(save_steps(TOTAL), [0])
        self.assertEqual(save_steps(program(STOP)), [])
        self.assertEqual(save_steps(program(("save",), STOP, ("save",), ("save",), STOP)), [0, 2, 3])

    def test_variables_with_the_names_of_steps(self):
        words = (("save", "if", "stop"), (("copy", "if", "save"), ("save",), ("if", "save", 0), ("stop", "save")))
        self.assertEqual(save_steps(words), [1])
        self.assertEqual(plain(words, (0, 3, 4)), (0, 4))

    def test_answers_are_new(self):
        save_steps(TOTAL).append(5)
        self.assertEqual(save_steps(TOTAL), [0])

    def test_errors(self):
        for value in ODD:
            self.assertRaises(InvalidProgram, save_steps, value)


class Plain(unittest.TestCase):
    def test_example(self):
        self.assertEqual(plain(TOTAL, ZERO), (6, 29))

    def test_each_kind_of_step(self):
        for step, store, result in [
            (("set", "a", 5), (1, 2), 5), (("copy", "a", "b"), (1, 2), 2), (("add", "a", "a", "b"), (6, 5), 3),
            (("add", "a", "b", "b"), (0, 4), 0), (("sub", "a", "a", "b"), (2, 5), 5), (("sub", "a", "b", "a"), (2, 5), 3),
            (("less", "a", "a", "b"), (1, 2), 1), (("less", "a", "a", "b"), (2, 2), 0),
            (("less", "a", "b", "a"), (1, 2), 0), (("save",), (3, 4), 3),
        ]:
            self.assertEqual(plain(program(step, STOP), store), (result, 2))

    def test_jumps(self):
        jump = program(("if", "a", 3), ("set", "a", 4), ("go", 4), ("set", "a", 6), STOP)
        self.assertEqual(plain(jump, (0, 0)), (4, 4))
        self.assertEqual(plain(jump, (1, 0)), (6, 3))
        self.assertEqual(plain(jump, (7, 0)), (6, 3))

    def test_first_stop_ends_the_run(self):
        self.assertEqual(plain(program(("stop", "b"), STOP), (1, 2)), (2, 1))

    def test_runs_that_do_not_stop(self):
        self.assertIsNone(plain(program(("go", 0)), (0, 0)))
        round_and_round = program(("add", "a", "a", "b"), ("if", "b", 0), STOP)
        self.assertIsNone(plain(round_and_round, (0, 1)))
        self.assertEqual(plain(round_and_round, (3, 0)), (3, 3))

    def test_long_run(self):
        count = (("a", "b", "c", "d"), (
            ("set", "d", 1), ("add", "a", "a", "d"), ("if", "a", 0), ("add", "b", "b", "d"), ("if", "b", 0),
            ("add", "c", "c", "d"), ("if", "c", 0), ("stop", "d"),
        ))
        self.assertEqual(plain(count, (0, 0, 0, 0)), (1, 512 * 3 + 64 * 2 + 8 * 2 + 1))

    def test_against_the_plain_exploration(self):
        for seed in range(60):
            found = random_program(seed, 1 + seed % 3, 4 + seed % 6, seed % 3)
            for value in range(8):
                store = tuple((value * 3 + 5 * k) % 8 for k in range(len(found[0])))
                self.assertEqual(plain(found, store), end(found, 0, store), (found, store))

    def test_errors(self):
        for value in ODD:
            self.assertRaises(InvalidProgram, plain, value, ZERO)
            self.assertRaises(InvalidStore, plain, TOTAL, value)
        for store in [(0, 0), (0, 0, 0, 0), [0, 0, 0], (0, 0, 8), (0, -1, 0), (True, 0, 0), (0, 0, False), (0, 0, "0"),
                      (0, 0, None), (0, 0, ANY), (0, 0, Hostile()), (0, 0, (0,)), {0: 0, 1: 0, 2: 0}, "000", b"000"]:
            self.assertRaises(InvalidStore, plain, TOTAL, store)

    def test_the_error_documented_first_is_raised(self):
        self.assertRaises(InvalidProgram, plain, None, None)

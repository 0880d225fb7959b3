"""Points 4, 10 and 11: the form of plans, their order, and which contain or split others."""

import unittest
from unittest.mock import ANY

from tests.reference import EMPTY, ODD, TOTAL, Hostile, every_plan, has_all, key, random_program, splittings
from tornsaves.errors import InvalidPlan, InvalidProgram, TooLarge
from tornsaves.plans import contains, plans, saved_variables, splits

SAVES = (("a", "b", "c"), (("save",), ("copy", "a", "b"), ("save",), ("stop", "a")))
FOUR = (("a", "b", "c", "d"), (("save",), ("save",), ("save",), ("stop", "a")))

GOOD_PLANS = [
    EMPTY, ((0,), ()), ((), (("a",),)), ((0, 2), (("a", "c"), ("b",))), ((2,), (("c",), ("a",))),
    ((0,), (("a", "b", "c"),)),
]
BAD_PLANS = ODD + [
    [(0,), ()], ((0,),), ((0,), (), ()), ([0], ()), ((0,), []), ((0,), [("a",)]), ((0,), (["a"],)), ((1,), ()), ((3,), ()),
    ((-1,), ()), ((4,), ()), ((2, 0), ()), ((0, 0), ()), ((0, 2, 2), ()), ((False,), ()), ((False, 2), ()), (("0",), ()),
    ((None,), ()), (((0,),), ()), (([],), ()), (0, ()), ((0,), ((),)), ((0,), (("a",), ())), ((0,), (("a", "a"),)),
    ((0,), (("b", "a"),)), ((0,), (("c", "a"),)), ((0,), (("a",), ("a",))), ((0,), (("a", "b"), ("b", "c"))),
    ((0,), (("d",),)), ((0,), ("a",)), ((0,), "a"), ((0,), ((1,),)), ((0,), ((None,),)), ((0,), ((["a"],),)),
    ((0,), (({},),)), ((0,), {("a",): 1}), ((0,), None), (None, ()), ((0,), ((True,),)),
    ((0,), ((ANY,),)), ((0,), ((ANY, ANY, ANY),)), ((0,), (("a", Hostile()),)), ((ANY, ANY), ()), ((0, Hostile()), ()),
    (ANY, ()), ((0,), ANY), (Hostile(), ()), ((0,), (Hostile(),)),
]


class Form(unittest.TestCase):
    def test_plans(self):
        for plan in GOOD_PLANS:
            self.assertIsInstance(saved_variables(SAVES, plan), tuple)
            self.assertIs(contains(SAVES, plan, plan), True)
            self.assertIs(splits(SAVES, plan, plan), False)

    def test_values_that_are_no_plans(self):
        for value in BAD_PLANS:
            self.assertRaises(InvalidPlan, saved_variables, SAVES, value)
            for function in (contains, splits):
                self.assertRaises(InvalidPlan, function, SAVES, value, EMPTY)
                self.assertRaises(InvalidPlan, function, SAVES, EMPTY, value)

    def test_values_that_are_no_programs(self):
        for value in ODD:
            self.assertRaises(InvalidProgram, saved_variables, value, EMPTY)
            self.assertRaises(InvalidProgram, contains, value, EMPTY, EMPTY)
            self.assertRaises(InvalidProgram, splits, value, EMPTY, EMPTY)
            self.assertRaises(InvalidProgram, plans, value)

    def test_the_error_documented_first_is_raised(self):
        self.assertRaises(InvalidProgram, saved_variables, None, None)
        self.assertRaises(InvalidProgram, contains, None, None, None)
        self.assertRaises(InvalidProgram, splits, None, None, None)

    def test_saves_are_those_of_the_program(self):
        self.assertEqual(saved_variables(FOUR, ((0, 1, 2), (("d",), ("a",)))), ("a", "d"))
        self.assertRaises(InvalidPlan, saved_variables, TOTAL, ((7,), (("i",),)))


class SavedVariables(unittest.TestCase):
    def test_order_of_the_program(self):
        self.assertEqual(saved_variables(SAVES, ((0,), (("c",), ("a", "b")))), ("a", "b", "c"))
        self.assertEqual(saved_variables(SAVES, ((0,), (("c",), ("b",)))), ("b", "c"))
        self.assertEqual(saved_variables(SAVES, EMPTY), ())
        self.assertEqual(saved_variables(SAVES, ((0, 2), ())), ())
        self.assertEqual(saved_variables(SAVES, ((), (("b",),))), ("b",))
        turned = (("z", "a"), (("save",), ("stop", "a")))
        self.assertEqual(saved_variables(turned, ((0,), (("a",), ("z",)))), ("z", "a"))


class Splits(unittest.TestCase):
    def test_answers(self):
        for one, other, answer in [
            ((("a",), ("b",)), (("a", "b"),), True), ((("b",), ("a",)), (("a", "b"),), True),
            ((("a", "b"),), (("a",), ("b",)), False), ((("a",), ("b",)), (("b",), ("a",)), False),
            ((("a",), ("b",), ("c",)), (("a", "b", "c"),), True), ((("a",), ("b",), ("c",)), (("a", "b"), ("c",)), True),
            ((("a",), ("c",), ("b",)), (("a", "b"), ("c",)), False), ((("c",), ("a",), ("b",)), (("a", "b"), ("c",)), False),
            ((("a",), ("b",)), (("a",),), False), ((("a",), ("b",)), (("a", "c"),), False),
            ((("a",), ("b",), ("c",)), (("a", "b"),), False), ((("a", "c"), ("b",)), (("a",), ("b", "c")), False),
            ((("a",), ("b", "c")), (("a", "b"), ("c",)), False), ((), (), False), ((("a",),), (), False),
            ((), (("a",),), False),
        ]:
            for saves in [(), (0,), (0, 2)]:
                self.assertIs(splits(SAVES, (saves, one), (saves, other)), answer, (one, other))

    def test_saves_must_be_the_same(self):
        one, other = (("a",), ("b",)), (("a", "b"),)
        self.assertIs(splits(SAVES, ((0,), one), ((0, 2), other)), False)
        self.assertIs(splits(SAVES, ((0, 2), one), ((0,), other)), False)

    def test_two_groups_at_once(self):
        one, other = (("b",), ("a",), ("d",), ("c",)), (("a", "b"), ("c", "d"))
        self.assertIs(splits(FOUR, ((1,), one), ((1,), other)), True)
        self.assertIs(splits(FOUR, ((1,), one), ((1,), other[::-1])), False)

    def test_all_pairs_of_small_plans(self):
        rows = plans(SAVES)
        for other in rows:
            found = splittings(other)
            for one in rows:
                self.assertIs(splits(SAVES, one, other), one in found, (one, other))


class Contains(unittest.TestCase):
    def test_answers(self):
        large = ((0, 2), (("c",), ("a", "b")))
        for small in [EMPTY, ((0,), ()), ((2,), (("a",), ("c",))), ((), (("b", "c"),)), ((0, 2), (("a", "b", "c"),)), large]:
            self.assertIs(contains(SAVES, large, small), True)
        self.assertIs(contains(SAVES, ((0,), (("a",),)), ((2,), (("a",),))), False)
        self.assertIs(contains(SAVES, ((0,), (("a",),)), ((0,), (("b",),))), False)
        self.assertIs(contains(SAVES, ((0,), (("a",),)), ((0,), (("a",), ("b",)))), False)
        self.assertIs(contains(SAVES, EMPTY, ((0,), ())), False)

    def test_all_pairs_of_small_plans(self):
        rows = plans(SAVES)
        for one in rows:
            for other in rows:
                self.assertIs(contains(SAVES, one, other), has_all(one, other))


class Plans(unittest.TestCase):
    def test_small_program(self):
        one = (("a", "b"), (("save",), ("stop", "a")))
        self.assertEqual(plans(one), [
            EMPTY, ((0,), (("a",),)), ((0,), (("b",),)), ((0,), (("a", "b"),)), ((0,), (("a",), ("b",))),
            ((0,), (("b",), ("a",))),
        ])

    def test_no_saves(self):
        self.assertEqual(plans((("a", "b", "c"), (("stop", "a"),))), [EMPTY])

    def test_numbers(self):
        self.assertEqual(len(plans(SAVES)), 1 + 3 * 25)
        self.assertEqual(len(plans(TOTAL)), 1 + 25)

    def test_order(self):
        # The names are not in alphabetical order: the order of plans is that of the strings.
        turned = (("z", "b", "a"), (("save",), ("save",), ("stop", "a")))
        self.assertEqual(plans(turned)[:5], [
            EMPTY, ((0,), (("a",),)), ((0,), (("b",),)), ((0,), (("z",),)), ((1,), (("a",),)),
        ])
        self.assertIn(((0,), (("z", "a"),)), plans(turned))
        self.assertNotIn(((0,), (("a", "z"),)), plans(turned))

    def test_against_the_plain_exploration(self):
        for seed in range(12):
            program = random_program(seed, 1 + seed % 3, 6, seed // 3 % 3)
            self.assertEqual(plans(program), every_plan(program))
            self.assertEqual(plans(program), sorted(plans(program), key=key))

    def test_too_large(self):
        four_variables = (FOUR[0], (("stop", "a"),))
        three_saves = (("a",), FOUR[1])
        for program in (FOUR, four_variables, three_saves):
            self.assertRaises(TooLarge, plans, program)

    def test_answers_are_new(self):
        plans(TOTAL).clear()
        self.assertEqual(len(plans(TOTAL)), 26)

"""Points 13 and 14: groupings, what must be written together, and what first."""

import unittest
from unittest.mock import ANY

from tests.reference import (
    ODD, TOTAL, TORN, ZERO, Hostile, every_grouping, good_groupings, guarded_program, is_bad, leads, random_program,
    renamed, some_inputs, splittings,
)
from tests.test_deciding import BAD_INPUTS, BAD_LOSSES, ROUND
from tornsaves.deciding import Insufficient
from tornsaves.dependence import Dependences, dependences, finest_groupings, sufficient_groupings
from tornsaves.errors import InvalidNumber, InvalidPlan, InvalidProgram, NotInput

IST = ("i", "s", "t")
# Where `f` is set, `d` has been saved: the flag must not be written ahead of the value.
FLAG = (("f", "d", "r"), (
    ("if", "f", 4), ("set", "d", 5), ("set", "f", 1), ("save",), ("copy", "r", "d"), ("stop", "r"),
))
# Two flags that must agree, a value that they tell of, and a help.
FLAGS = (("g", "f", "d", "t"), (
    ("sub", "t", "f", "g"), ("if", "t", 8), ("if", "f", 7), ("set", "d", 5), ("set", "f", 1), ("set", "g", 1), ("save",),
    ("stop", "d"), ("stop", "t"),
))
NOTHING = (0, 0, 0, 0)
# Each variable can be written ahead of each other one, and yet a grouping with two groups is not sufficient.
ONE_BY_ONE = (3141, 3, 4, 1, (8,), "abc", 3, None)
# Arguments of `guarded_program`, the saves, the variables, the number of inputs, and a loss.
CHOSEN = [
    ONE_BY_ONE, (2084, 3, 3, 2, (7,), "abc", 2, 8), (2084, 3, 3, 2, (7,), "abc", 2, None),
    (3371, 4, 4, 3, (9,), "abcd", 1, 9), (3371, 4, 4, 3, (9,), "abcd", 1, None), (1796, 3, 4, 1, (8,), "abc", 2, None),
    (2374, 3, 4, 2, (9,), "abc", 2, 12), (3310, 3, 3, 1, (7,), "abc", 1, 7), (5220, 4, 4, 1, (8,), "abcd", 1, None),
    (5829, 3, 3, 3, (7,), "abc", 2, None), (7070, 4, 5, 1, (9,), "abcd", 1, None), (264, 4, 5, 1, (8,), "abcd", 3, None),
    (587, 4, 1, 2, (6,), "bcd", 2, 10), (1336, 4, 2, 1, (4,), "abcd", 3, 5), (2693, 4, 3, 2, (7, 8), "abcd", 3, None),
    (3730, 3, 2, 3, (4, 7), "abc", 1, None), (4375, 3, 3, 2, (8,), "abc", 2, None), (6715, 3, 2, 1, (6,), "abc", 3, None),
    (6028, 4, 2, 3, (5, 6, 7), "abcd", 2, None), (7829, 3, 2, 2, (3, 7), "abc", 2, None),
]


def chosen_case(row):
    seed, variables, tests, saves, marks, names, many, loss = row
    program = guarded_program(seed, variables, tests, saves)
    return program, marks, tuple(names), some_inputs(program, many), loss


def in_other_names(case):
    """A case whose variables have names that do not ascend."""
    program, saves, names, inputs, loss = case
    other = renamed(program)
    return other, saves, tuple(other[0][program[0].index(name)] for name in names), inputs, loss


def all_cases():
    """Programs, saves, variables, inputs, losses."""
    yield TOTAL, (0,), IST, [ZERO], None
    yield TOTAL, (0,), IST, [(2, 1, 7), ZERO], 7
    yield TOTAL, (0,), ("i", "t"), [ZERO], None
    yield FLAG, (3,), ("f", "d"), [ZERO], None
    yield FLAGS, (6,), FLAGS[0], [NOTHING], None
    for row in CHOSEN:
        yield chosen_case(row)
        yield in_other_names(chosen_case(row))
    for seed in range(60):
        saves = 1 + seed % 3
        program = random_program(seed, 1 + seed % 4, 6 + seed % 5, saves)
        inputs = some_inputs(program, 1 + seed % 2)
        marks = tuple(k for k, step in enumerate(program[1]) if step == ("save",))
        if inputs:
            yield in_other_names((program, marks[seed % 5 % saves:], program[0], inputs, (None, None, 6)[seed // 4 % 3]))


CASES = [(*case, good_groupings(*case)) for case in all_cases()]
FOUND = [case for case in CASES if case[-1]]


def ahead(names, good):
    """The pairs of variables of which the first one can be written ahead of the second one."""
    return {(x, y) for x in names for y in names if x != y and leads(good, x, y)}


def halves(names):
    return [groups for groups in every_grouping(names) if len(groups) == 2]


def barred(names, good):
    """The groupings with two groups and a variable in the first one that can't be written ahead of one in the second."""
    free = ahead(names, good)
    return [groups for groups in halves(names) if any((x, y) not in free for x in groups[0] for y in groups[1])]


def together(names, good):
    free, rows = ahead(names, good), []
    for name in names:
        row = [other for other in names if other == name or not {(name, other), (other, name)} & free]
        if row not in rows:
            rows.append(row)
    return rows


def first(names, good):
    free = ahead(names, good)
    return [(x, y) for x in names for y in names if (x, y) in free and (y, x) not in free]


class Groupings(unittest.TestCase):
    def test_example(self):
        self.assertEqual(sufficient_groupings(TOTAL, (0,), IST, [ZERO]), [
            (("i", "s", "t"),), (("i", "s"), ("t",)), (("t",), ("i", "s")),
        ])
        self.assertEqual(finest_groupings(TOTAL, (0,), IST, [ZERO]), [(("i", "s"), ("t",)), (("t",), ("i", "s"))])
        self.assertEqual(sufficient_groupings(TOTAL, (0,), ("i", "s"), [ZERO]), [(("i", "s"),)])
        self.assertEqual(finest_groupings(TOTAL, (0,), ("i", "s"), [ZERO]), [(("i", "s"),)])

    def test_loss(self):
        for function in (sufficient_groupings, finest_groupings):
            self.assertEqual(function(TOTAL, (0,), IST, [ZERO], loss=7), function(TOTAL, (0,), IST, [ZERO]))
            self.assertEqual(function(TOTAL, (0,), IST, [ZERO], loss=6), [])

    def test_flag(self):
        self.assertEqual(sufficient_groupings(FLAG, (3,), ("f", "d"), [ZERO]), [(("f", "d"),), (("d",), ("f",))])
        self.assertEqual(finest_groupings(FLAG, (3,), ("f", "d"), [ZERO]), [(("d",), ("f",))])

    def test_one_variable(self):
        for function in (sufficient_groupings, finest_groupings):
            self.assertEqual(function(TOTAL, (0,), ("t",), [ZERO]), [(("t",),)])
            self.assertEqual(function(TOTAL, (0,), ("i",), [ZERO]), [])

    def test_four_variables(self):
        self.assertEqual(finest_groupings(FLAGS, (6,), FLAGS[0], [NOTHING]), [
            (("d",), ("g", "f"), ("t",)), (("d",), ("t",), ("g", "f")), (("t",), ("d",), ("g", "f")),
        ])
        found = sufficient_groupings(FLAGS, (6,), FLAGS[0], [NOTHING])
        self.assertEqual(len(found), 8)
        self.assertEqual(found[:5], [
            (("g", "f", "d", "t"),), (("d",), ("g", "f", "t")), (("d", "t"), ("g", "f")), (("g", "f", "d"), ("t",)),
            (("t",), ("g", "f", "d")),
        ])

    def test_all_groupings_of_four_variables(self):
        program = (("d", "c", "b", "a"), (("save",), ("save",), ("save",), ("stop", "a")))
        found = sufficient_groupings(program, (0, 1, 2), program[0], [NOTHING])
        self.assertEqual(found, every_grouping(program[0]))
        self.assertEqual(len(found), 75)
        finest = finest_groupings(program, (0, 1, 2), program[0], [NOTHING])
        self.assertEqual(len(finest), 24)
        self.assertEqual(finest, sorted(finest))

    def test_against_the_plain_exploration(self):
        for program, saves, names, inputs, loss, good in CASES:
            self.assertEqual(sufficient_groupings(program, saves, names, inputs, loss=loss), good)
            finest = [groups for groups in good if not {one for _, one in splittings((saves, groups))} & set(good)]
            self.assertEqual(finest_groupings(program, saves, names, inputs, loss=loss), finest)

    def test_answers_are_new_and_arguments_are_not_changed(self):
        for function in (sufficient_groupings, finest_groupings):
            inputs = [ZERO]
            before = function(TOTAL, (0,), IST, inputs)
            function(TOTAL, (0,), IST, inputs).clear()
            self.assertEqual(inputs, [ZERO])
            self.assertEqual(function(TOTAL, (0,), IST, (ZERO,)), before)
            self.assertIsInstance(before, list)


class Analysis(unittest.TestCase):
    def test_example(self):
        found = dependences(TOTAL, (0,), IST, [ZERO])
        self.assertIsInstance(found, Dependences)
        self.assertEqual((found.together, found.first), ([["i", "s"], ["t"]], []))
        self.assertIs(found.is_correct(TOTAL, (0,), IST, [ZERO]), True)
        self.assertIs(found.is_correct(TOTAL, (0,), IST, (ZERO,), loss=7), True)

    def test_flag(self):
        found = dependences(FLAG, (3,), ("f", "d"), [ZERO])
        self.assertEqual((found.together, found.first), ([["f"], ["d"]], [("d", "f")]))
        self.assertEqual(found.shown, [(("d",), ("f",))])
        self.assertTrue(any(is_bad(FLAG, ((3,), (("f",), ("d",))), value, crashes) for value, crashes in found.runs))

    def test_one_variable(self):
        found = dependences(TOTAL, (0,), ("t",), [ZERO])
        self.assertEqual((found.together, found.first, found.shown), ([["t"]], [], []))
        self.assertIs(Dependences([["t"]], [], [], []).is_correct(TOTAL, (0,), ("t",), [ZERO]), True)
        self.assertIs(Dependences([], [], [], []).is_correct(TOTAL, (0,), ("t",), [ZERO]), False)

    def test_four_variables(self):
        found = dependences(FLAGS, (6,), FLAGS[0], [NOTHING])
        self.assertEqual(found.together, [["g", "f"], ["d"], ["t"]])
        self.assertEqual(found.first, [("d", "g"), ("d", "f")])

    def test_no_sufficient_grouping(self):
        for names, loss in [(("i",), None), (("s", "t"), None), (("i", "s"), 6), (IST, 6)]:
            found = dependences(TOTAL, (0,), names, [ZERO], loss=loss)
            self.assertIsInstance(found, Insufficient)
            self.assertEqual((found.value, len(found.crashes)), (ZERO, 1))
            self.assertTrue(is_bad(TOTAL, ((0,), (names,)), found.value, found.crashes, loss))
            self.assertIs(found.is_correct(TOTAL, ((0,), (names,)), [ZERO], loss=loss), True)
            self.assertIs(Dependences([list(names)], [], [], [(ZERO, found.crashes)]).is_correct(
                TOTAL, (0,), names, [ZERO], loss=loss), False)

    def test_all_together_needs_runs_only(self):
        found = dependences(TOTAL, (0,), ("i", "s"), [ZERO])
        self.assertEqual((found.together, found.first, found.shown), ([["i", "s"]], [], []))
        self.assertIs(found.is_correct(TOTAL, (0,), ("i", "s"), [ZERO]), True)
        self.assertIs(Dependences([["i", "s"]], [], [], []).is_correct(TOTAL, (0,), ("i", "s"), [ZERO]), False)

    def test_the_loss_counts(self):
        program, saves, names, inputs, _ = chosen_case((3371, 4, 4, 3, (9,), "abcd", 1, None))
        for loss, answer in [(9, [("d", "a")]), (10, [("d", "a")]), (11, []), (None, [])]:
            self.assertEqual(dependences(program, saves, names, inputs, loss=loss).first, answer)

    def test_against_the_plain_exploration(self):
        for program, saves, names, inputs, loss, good in CASES:
            found = dependences(program, saves, names, inputs, loss=loss)
            if not good:
                self.assertIsInstance(found, Insufficient)
                self.assertIs(found.is_correct(program, (saves, (names,)), inputs, loss=loss), True)
                continue
            self.assertEqual(found.together, together(names, good))
            self.assertEqual(found.first, first(names, good))
            self.assertIs(found.is_correct(program, saves, names, inputs, loss=loss), True)
            self.assertTrue(found.are_from(inputs))
            self.assertEqual([groups for groups in found.shown if groups not in good or len(groups) != 2], [])
            for x, y in ahead(names, good):
                self.assertTrue(any(x in groups[0] and y in groups[1] for groups in found.shown))
            for groups in barred(names, good):
                self.assertTrue(self.has_bad(program, (saves, groups), found.runs, loss))

    def has_bad(self, program, plan, runs, loss):
        return any(is_bad(program, plan, value, crashes, loss) for value, crashes in runs)

    def test_there_is_something_to_compare(self):
        self.assertGreater(len(CASES) - len(FOUND), 8)
        self.assertGreater(sum(any(len(row) > 1 for row in together(case[2], case[-1])) for case in FOUND), 15)
        self.assertGreater(sum(bool(first(case[2], case[-1])) for case in FOUND), 15)
        self.assertGreater(sum(len(case[2]) == 4 and 2 < len(case[-1]) < 75 for case in FOUND), 14)
        self.assertGreater(sum(len(dependences(*case[:4], loss=case[4]).runs) > 1 for case in FOUND), 9)


class IsCorrect(unittest.TestCase):
    def answers(self, program, saves, names, inputs, loss, good):
        """A right answer that has been put together by the second exploration."""
        shown = [groups for groups in good if len(groups) == 2]
        runs = dependences(program, saves, names, inputs, loss=loss).runs
        return [together(names, good), first(names, good), shown, runs]

    def check(self, case, fields, answer):
        program, saves, names, inputs, loss, _ = case
        self.assertIs(Dependences(*fields).is_correct(program, saves, names, inputs, loss=loss), answer, fields)

    def test_together_must_be_right_and_in_order(self):
        for case in FOUND:
            rows, *rest = self.answers(*case)
            self.check(case, [rows, *rest], True)
            others = [rows[:-1], rows + [[]], rows + rows[:1], [], [[*rows[0], *rows[0]], *rows[1:]]]
            if len(rows) > 1:
                others += [rows[::-1], [sum(rows, [])], [rows[0] + rows[1], *rows[2:]]]
            for k, row in enumerate(rows):
                if len(row) > 1:
                    others += [rows[:k] + [row[::-1]] + rows[k + 1:], rows[:k] + [row[:1], row[1:]] + rows[k + 1:]]
            for other in others:
                self.check(case, [other, *rest], False)

    def test_first_must_be_right_and_in_order(self):
        for case in FOUND:
            rows, pairs, *rest = self.answers(*case)
            wrong = [pair for pair in [(x, y) for x in case[2] for y in case[2]] if pair not in pairs]
            others = [pairs + [pair] for pair in wrong]
            if pairs:
                others += [pairs[1:], [], pairs + pairs[:1], [(y, x) for x, y in pairs]]
            if len(pairs) > 1:
                others += [pairs[::-1], pairs[:1] + pairs[:1] + pairs[2:]]
            for other in others:
                self.check(case, [rows, other, *rest], False)

    def test_shown_must_be_sufficient_and_have_two_groups(self):
        for case in FOUND:
            rows, pairs, shown, runs = self.answers(*case)
            names, good = case[2], case[-1]
            for groups in every_grouping(names):
                answer = len(groups) == 2 and groups in good
                self.check(case, [rows, pairs, shown + [groups], runs], answer)
                self.check(case, [rows, pairs, [groups] + shown, runs], answer)
            self.check(case, [rows, pairs, shown[::-1] + shown, runs], True)

    def test_shown_must_show_all(self):
        for case in FOUND:
            rows, pairs, shown, runs = self.answers(*case)
            free = ahead(case[2], case[-1])
            for k in range(len(shown)):
                for rest in (shown[:k], shown[:k] + shown[k + 1:]):
                    self.check(case, [rows, pairs, rest, runs], ahead(case[2], rest) == free)

    def test_some_of_the_groupings_can_be_left_out(self):
        program = (("a", "b", "c"), (("save",), ("stop", "a")))
        lists = [[["a"], ["b"], ["c"]], []]
        for shown, answer in [
            ([(("a",), ("b", "c")), (("c",), ("a", "b")), (("b",), ("a", "c"))], True),
            ([(("a",), ("b", "c")), (("b", "c"), ("a",)), (("a", "b"), ("c",)), (("c",), ("a", "b"))], True),
            ([(("a",), ("b", "c")), (("b", "c"), ("a",)), (("a", "b"), ("c",))], False),
            ([(("a",), ("b",), ("c",)), (("c",), ("b",), ("a",))], False), ([], False),
        ]:
            self.assertIs(Dependences(*lists, shown, []).is_correct(program, (0,), program[0], [ZERO]), answer)

    def test_runs_must_be_enough(self):
        answers = []
        for case in FOUND:
            program, saves, names, inputs, loss, good = case
            *lists, runs = self.answers(*case)
            needed = barred(names, good)
            for k in range(len(runs)):
                for rest in (runs[:k], runs[:k] + runs[k + 1:]):
                    enough = all(any(is_bad(program, (saves, groups), *run, loss) for run in rest) for groups in needed)
                    answers.append(enough)
                    self.check(case, [*lists, rest], enough)
        self.assertGreater(answers.count(False), 40)

    def test_only_groupings_that_bar_a_pair_need_runs(self):
        case = [case for case in CASES if case[:5] == chosen_case(ONE_BY_ONE)][0]
        *lists, runs = self.answers(*case)
        self.assertEqual(barred(case[2], case[-1]), [])
        self.assertEqual([groups for groups in halves(case[2]) if groups not in case[-1]], [(("a",), ("b", "c"))])
        self.check(case, [*lists, []], True)
        self.check(case, [*lists, [(case[3][0], [3])]], True)

    def test_each_number_of_moves(self):
        for moves in range(-1, 12):
            bad = moves >= 0 and is_bad(FLAG, ((3,), (("f",), ("d",))), ZERO, [moves])
            found = Dependences([["f"], ["d"]], [("d", "f")], [(("d",), ("f",))], [(ZERO, [moves])])
            self.assertIs(found.is_correct(FLAG, (3,), ("f", "d"), [ZERO]), bad, moves)

    def test_additional_runs(self):
        found = dependences(TOTAL, (0,), IST, [ZERO])
        for crashes in [[], [0], [0, 0, 0], [1000000], [17, 1000000], [-1], [10 ** 9], [17]]:
            found.runs.insert(0, (ZERO, crashes))
            self.assertIs(found.is_correct(TOTAL, (0,), IST, [ZERO]), True)
        found.runs = [(value, [0, 0, *crashes]) for value, crashes in found.runs]
        self.assertIs(found.is_correct(TOTAL, (0,), IST, [ZERO]), True)
        found.runs.append(((3, 0, 0), [1]))
        self.assertIs(found.is_correct(TOTAL, (0,), IST, [ZERO]), False)
        self.assertIs(found.is_correct(TOTAL, (0,), IST, [ZERO, (3, 0, 0)]), True)
        found.runs[-1] = ((0, 0), [1])
        self.assertIs(found.is_correct(TOTAL, (0,), IST, [ZERO]), False)

    def test_runs_with_a_loss(self):
        program, saves, names, inputs, loss = chosen_case((3371, 4, 4, 3, (9,), "abcd", 1, 9))
        found = dependences(program, saves, names, inputs, loss=9)
        self.assertIs(found.is_correct(program, saves, names, inputs, loss=9), True)
        self.assertIs(found.is_correct(program, saves, names, inputs), False)
        self.assertIs(found.is_correct(program, saves, names, inputs, loss=10), True)
        self.assertIs(found.is_correct(program, saves, names, inputs, loss=11), False)
        self.assertIs(found.is_correct(program, saves, names, inputs, loss=0), False)

    def test_other_arguments(self):
        found = dependences(TOTAL, (0,), IST, [ZERO])
        self.assertIs(found.is_correct(TOTAL, (0,), ("i", "s"), [ZERO]), False)
        self.assertIs(found.is_correct(TOTAL, (0,), ("t",), [ZERO]), False)
        self.assertIs(found.is_correct(TOTAL, (0,), IST, [(3, 0, 0)]), False)

    def test_follows_the_current_fields(self):
        found = dependences(FLAGS, (6,), FLAGS[0], [NOTHING])
        right = found.fields
        for word, k in [("together", 0), ("first", 1), ("shown", 2), ("runs", 3)]:
            getattr(found, word).pop()
            self.assertEqual(found.fields[k], right[k][:-1])
            self.assertNotEqual(found, Dependences(*right))
            setattr(found, word, Dependences(*right).fields[k])
            self.assertEqual(found, Dependences(*right))
            self.assertIs(found.is_correct(FLAGS, (6,), FLAGS[0], [NOTHING]), True)
        found.together[0].reverse()
        self.assertIs(found.is_correct(FLAGS, (6,), FLAGS[0], [NOTHING]), False)
        found.together[0].reverse()
        for _, crashes in found.runs:
            crashes.clear()
        self.assertIs(found.is_correct(FLAGS, (6,), FLAGS[0], [NOTHING]), False)

    def test_answers_are_new(self):
        for fields in (dependences(TOTAL, (0,), IST, [ZERO]).fields, dependences(TOTAL, (0,), ("i",), [ZERO]).fields):
            for field in fields[1:]:
                field.clear()
        inputs = [ZERO]
        found = dependences(TOTAL, (0,), IST, inputs)
        inputs.clear()
        found.together[0].clear()
        self.assertEqual(dependences(TOTAL, (0,), IST, [ZERO]).together, [["i", "s"], ["t"]])


# Values that are no saves beside the variables IST, and no variables beside the save 0.
BAD_SAVES = [
    (), [0], (1,), (0, 0), (0, 1), (-1,), (8,), (True,), (False,), ("0",), (None,), ((0,),), (0, None), {0: 1}, {0}, ANY,
    (ANY,), Hostile(), (Hostile(),), (0, Hostile()), TORN,
]
BAD_NAMES = [
    [], ["i"], ["i", "s", "t"], ("s", "i"), ("i", "t", "s"), ("i", "i"), ("i", "u"), ("x",), (1,), (None,), (("i",),),
    (("i", "s"),), ("i", ("s",)), "i", ("is",), {"i": 1}, {"i"}, (True,), (["i"],), ANY, (ANY,), (ANY, ANY, ANY), Hostile(),
    ("i", Hostile()), TORN, ("i", "s", "t", "i"),
]


class Errors(unittest.TestCase):
    def calls(self):
        yield sufficient_groupings
        yield finest_groupings
        yield dependences
        yield dependences(TOTAL, (0,), IST, [ZERO]).is_correct
        yield Dependences([], [], [], []).is_correct

    def test_each_error(self):
        for call in self.calls():
            for value in ODD:
                self.assertRaises(InvalidProgram, call, value, (0,), IST, [ZERO])
            for value in ODD + BAD_SAVES:
                self.assertRaises(InvalidPlan, call, TOTAL, value, IST, [ZERO])
            for value in ODD + BAD_NAMES:
                self.assertRaises(InvalidPlan, call, TOTAL, (0,), value, [ZERO])
            for value in BAD_INPUTS:
                self.assertRaises(NotInput, call, TOTAL, (0,), IST, value)
            self.assertRaises(NotInput, call, ROUND, (2,), ("a",), [(0, 0), (1, 0)])
            for value in BAD_LOSSES:
                self.assertRaises(InvalidNumber, call, TOTAL, (0,), IST, [ZERO], loss=value)
            self.assertRaises(TypeError, call, TOTAL, (0,), IST, [ZERO], 7)
            for value in (None, 0, 1000000):
                call(TOTAL, (0,), IST, [ZERO], loss=value)

    def test_a_program_without_saves(self):
        bare = (("a",), (("stop", "a"),))
        for call in self.calls():
            self.assertRaises(InvalidPlan, call, bare, (), ("a",), [(0,)])
            self.assertRaises(InvalidPlan, call, bare, (0,), ("a",), [(0,)])

    def test_the_error_documented_first_is_raised(self):
        for call in self.calls():
            self.assertRaises(InvalidProgram, call, None, None, None, None, loss=True)
            self.assertRaises(InvalidPlan, call, TOTAL, (), IST, None, loss=True)
            self.assertRaises(InvalidPlan, call, TOTAL, (0,), (), None, loss=True)
            self.assertRaises(NotInput, call, TOTAL, (0,), IST, None, loss=True)

    def test_a_refused_call_changes_nothing(self):
        found = dependences(TOTAL, (0,), IST, [ZERO])
        fields = found.fields
        self.assertRaises(InvalidNumber, found.is_correct, TOTAL, (0,), IST, [ZERO], loss=-1)
        self.assertEqual(found.fields, fields)

"""The answers: names, fields, equality, and what is copied."""

import unittest
from unittest import mock

from tornsaves.costs import Cheapest
from tornsaves.deciding import Insufficient, Sufficient
from tornsaves.dependence import Dependences
from tornsaves.evidence import Evidence, WithRuns
from tornsaves.families import Family
from tornsaves.placing import Placed

CLASSES = [Evidence, WithRuns, Sufficient, Insufficient, Family, Dependences, Cheapest, Placed]
PARTS = [["a", "b"], ["c"]]
HALVES = [(("a", "b"), ("c",))]


class Answers(unittest.TestCase):
    def test_names(self):
        names = [made.NAME for made in CLASSES]
        self.assertEqual(len(set(names)), len(names))
        for made, name in zip(CLASSES, names):
            self.assertIs(type(name), str)
            self.assertIn("NAME", vars(made))

    def test_subclasses(self):
        self.assertTrue(issubclass(WithRuns, Evidence))
        self.assertTrue(issubclass(Sufficient, Evidence))
        self.assertTrue(issubclass(Insufficient, Evidence))
        self.assertTrue(issubclass(Placed, Evidence))
        for made in (Family, Dependences, Cheapest):
            self.assertTrue(issubclass(made, WithRuns))
        for made in (Sufficient, Insufficient, Placed):
            self.assertFalse(issubclass(made, WithRuns))

    def test_fields(self):
        self.assertEqual(Evidence().fields, [])
        self.assertEqual(WithRuns([((0,), [1, 2])]).fields, [[((0,), [1, 2])]])
        self.assertEqual(Sufficient([[(0,)], [(1,), (2,)]]).fields, [[[(0,)], [(1,), (2,)]]])
        self.assertEqual(Insufficient((0,), [3]).fields, [(0,), [3]])
        self.assertEqual(Family([((), ())], [((0,), [1])]).fields, [[((), ())], [((0,), [1])]])
        self.assertEqual(
            Dependences(PARTS, [("a", "c")], HALVES, [((0,), [1])]).fields, [PARTS, [("a", "c")], HALVES, [((0,), [1])]],
        )
        self.assertEqual(Cheapest(((), ()), 4, [((0,), [1])]).fields, [((), ()), 4, [((0,), [1])]])
        self.assertEqual(Cheapest(None, None, []).fields, [None, None, []])
        self.assertEqual(Placed((1, 2), 5).fields, [(1, 2), 5])

    def test_equality(self):
        self.assertEqual(Evidence(), Evidence())
        self.assertEqual(WithRuns([((0,), [1])]), WithRuns([((0,), [1])]))
        self.assertNotEqual(WithRuns([((0,), [1])]), WithRuns([((0,), [2])]))
        self.assertNotEqual(WithRuns([]), Evidence())
        self.assertNotEqual(WithRuns([]), Sufficient([]))
        self.assertEqual(Insufficient((0,), [3]), Insufficient((0,), [3]))
        self.assertNotEqual(Insufficient((0,), [3]), Insufficient((1,), [3]))
        self.assertNotEqual(Family([], [((0,), [1])]), Family([((), ())], [((0,), [1])]))
        self.assertFalse(Insufficient((0,), [3]) != Insufficient((0,), [3]))

    def test_equality_of_all_fields(self):
        for made, fields, others in [
            (Dependences, [PARTS, [("a", "c")], HALVES, []], [PARTS[:1], [], [], [((0,), [1])]]),
            (Cheapest, [((), ()), 4, []], [None, 5, [((0,), [])]]), (Placed, [(1,), 4], [(1, 2), 5]),
            (Family, [[((), ())], []], [[], [((0,), [])]]),
        ]:
            self.assertEqual(made(*fields), made(*fields))
            for k, other in enumerate(others):
                self.assertNotEqual(made(*fields), made(*fields[:k], other, *fields[k + 1:]))
        self.assertNotEqual(Placed((), 0), Insufficient((), []))
        self.assertNotEqual(Family([], []), Dependences([], [], [], []))

    def test_not_equal_to_other_values(self):
        for answer in [
            Evidence(), WithRuns([]), Sufficient([]), Insufficient((0,), []), Family([], []), Dependences([], [], [], []),
            Cheapest(None, None, []), Placed((), 0),
        ]:
            for other in [None, 0, True, [], answer.fields, answer.NAME, (answer.NAME, answer.fields), object(), Evidence]:
                self.assertFalse(answer == other)
                self.assertTrue(answer != other)
            self.assertFalse(answer == mock.ANY)

    def test_lists_are_copied(self):
        runs, stores, crashes, rows = [((0,), [1])], [[(0,)]], [3], [((), ())]
        made = [WithRuns(runs), Sufficient(stores), Insufficient((0,), crashes), Family(rows, runs)]
        runs[0][1].append(5)
        runs.append(((0,), []))
        stores[0].append((1,))
        stores.append([])
        crashes.append(4)
        rows.append(None)
        self.assertEqual([answer.fields for answer in made], [
            [[((0,), [1])]], [[[(0,)]]], [(0,), [3]], [[((), ())], [((0,), [1])]],
        ])

    def test_lists_of_the_analysis_and_of_the_costs_are_copied(self):
        parts, pairs, shown, runs = [["a", "b"], ["c"]], [("a", "c")], list(HALVES), [((0,), [1])]
        answer, other = Dependences(parts, pairs, shown, runs), Cheapest(None, None, runs)
        for rows in (parts[0], runs[0][1], parts, pairs, shown, runs):
            rows.append(None)
        self.assertEqual(answer.fields, [PARTS, [("a", "c")], HALVES, [((0,), [1])]])
        self.assertEqual(other.fields, [None, None, [((0,), [1])]])

    def test_arguments_are_not_changed(self):
        runs, stores = [((0,), [1])], [[(1,), (0,)]]
        WithRuns(runs).fields, Family([], runs), Sufficient(stores).fields
        self.assertEqual((runs, stores), ([((0,), [1])], [[(1,), (0,)]]))

    def test_fields_are_new(self):
        for answer, fields in [
            (WithRuns([((0,), [1])]), [[((0,), [1])]]), (Family([((), ())], [((0,), [1])]), [[((), ())], [((0,), [1])]]),
        ]:
            for _, numbers in answer.fields[-1]:
                numbers.append(9)
            for field in answer.fields:
                field.clear()
            answer.fields.clear()
            self.assertEqual(answer.fields, fields)
        answer = Dependences(PARTS, [("a", "c")], HALVES, [((0,), [1])])
        for rows in (answer.fields[0][0], answer.fields[3][0][1], *answer.fields, answer.fields):
            rows.append(9)
        self.assertEqual(answer.fields, [PARTS, [("a", "c")], HALVES, [((0,), [1])]])
        answer = Cheapest(((), ()), 4, [((0,), [1])])
        answer.fields[2][0][1].append(9)
        answer.fields[2].clear()
        answer.fields.clear()
        self.assertEqual(answer.fields, [((), ()), 4, [((0,), [1])]])
        answer = Sufficient([[(0,)]])
        answer.fields[0][0].append((1,))
        answer.fields[0].clear()
        self.assertEqual(answer.fields, [[[(0,)]]])
        answer = Insufficient((0,), [3])
        answer.fields[1].append(4)
        self.assertEqual(answer.fields, [(0,), [3]])

    def test_fields_and_equality_follow_the_current_fields(self):
        answer = Insufficient((0,), [3])
        answer.value = (1,)
        answer.crashes.append(4)
        self.assertEqual(answer.fields, [(1,), [3, 4]])
        self.assertEqual(answer, Insufficient((1,), [3, 4]))
        answer = Sufficient([[(0,)]])
        answer.stores[0].append((1,))
        self.assertEqual(answer, Sufficient([[(0,), (1,)]]))
        answer.stores = []
        self.assertEqual(answer.fields, [[]])
        answer = WithRuns([((0,), [1])])
        answer.runs[0][1].append(2)
        self.assertEqual(answer.fields, [[((0,), [1, 2])]])
        answer = Family([], [])
        answer.plans.append(((), ()))
        answer.runs.append(((0,), [1]))
        self.assertEqual(answer, Family([((), ())], [((0,), [1])]))
        answer = Dependences([], [], [], [])
        answer.together.append(["a"])
        answer.first, answer.shown = [("a", "c")], list(HALVES)
        answer.runs.append(((0,), [1]))
        self.assertEqual(answer.fields, [[["a"]], [("a", "c")], HALVES, [((0,), [1])]])
        answer = Cheapest(None, None, [])
        answer.plan, answer.cost = ((), ()), 0
        self.assertEqual(answer, Cheapest(((), ()), 0, []))
        answer = Placed((), 0)
        answer.positions, answer.loss = (1,), 2
        self.assertEqual(answer.fields, [(1,), 2])

    def test_are_from(self):
        answer = WithRuns([((0,), [1]), ((1,), []), ((0,), [2])])
        self.assertIs(answer.are_from([(0,), (1,), (2,)]), True)
        self.assertIs(answer.are_from(((1,), (0,))), True)
        self.assertIs(answer.are_from([(0,)]), False)
        self.assertIs(answer.are_from([]), False)
        self.assertIs(WithRuns([]).are_from([]), True)
        answer.runs.append(((2,), []))
        self.assertIs(answer.are_from([(0,), (1,)]), False)
        runs = [((0,), [1]), ((1,), [])]
        for other in (Family([], runs), Dependences([], [], [], runs), Cheapest(None, None, runs)):
            self.assertIs(other.are_from([(0,), (1,)]), True)
            self.assertIs(other.are_from([(0,)]), False)

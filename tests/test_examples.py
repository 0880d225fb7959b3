"""Every example of the document, with the answer that stands there."""

import doctest
import unittest

TOTAL = '''
>>> total = (("i", "s", "t"), (("save",), ("add", "s", "s", "i"), ("set", "t", 1), ("add", "i", "i", "t"), ("set", "t", 4), ("less", "t", "i", "t"), ("if", "t", 0), ("stop", "s")))
'''
EXAMPLES = {
    "plain": '''
>>> from tornsaves.programs import plain
>>> plain(total, (0, 0, 0))
(6, 29)
''',
    "replay": '''
>>> from tornsaves.runs import replay
>>> replay(total, ((0,), (("i",), ("s",))), (0, 0, 0), [17, 0])
[(0, 0, 0), (2, 0, 0), (2, 0, 0)]
''',
    "Insufficient": '''
>>> from tornsaves.deciding import Insufficient
>>> Insufficient((0, 0, 0), [17]).is_correct(total, ((0,), (("i",), ("s",))), [(0, 0, 0)])
True
''',
    "loss_of": '''
>>> from tornsaves.deciding import loss_of
>>> loss_of(total, ((0,), (("i", "s"),)), [(0, 0, 0)]), loss_of(total, ((), ()), [(0, 0, 0)])
(7, 28)
''',
    "finest_plans": '''
>>> from tornsaves.families import finest_plans
>>> finest_plans(total, [(0, 0, 0)])[:3]
[((), ()), ((0,), (('t',),)), ((0,), (('i', 's'),))]
''',
    "dependences": '''
>>> from tornsaves.dependence import dependences
>>> found = dependences(total, (0,), ("i", "s", "t"), [(0, 0, 0)])
>>> (found.together, found.first)
([['i', 's'], ['t']], [])
''',
    "frontier": '''
>>> from tornsaves.costs import frontier
>>> frontier(total, [(0, 0, 0)], ((1, 1, 1), (1,), 1))
[(0, 28, ((), ())), (4, 7, ((0,), (('i', 's'),)))]
''',
    "best_positions": '''
>>> from tornsaves.placing import best_positions
>>> bare = (("i", "s", "t"), (("add", "s", "s", "i"), ("set", "t", 1), ("add", "i", "i", "t"), ("set", "t", 4), ("less", "t", "i", "t"), ("if", "t", 0), ("stop", "s")))
>>> best_positions(bare, (("i", "s"),), [(0, 0, 0)], loss=8).fields
[(0,), 7]
''',
    "Execution": '''
>>> from tornsaves.executions import Execution
>>> execution = Execution.after(total, ((0,), (("i",), ("s",))), (0, 0, 0), [9])
>>> (execution.state, execution.move(), execution.history)
((0, (1, 0, 0), (1, 0, 0)), (0, (1, 0, 0), (1, 0, 0), 1), [9])
''',
    "written": r'''
>>> from tornsaves.texts import written
>>> written((("a",), (("save",), ("stop", "a"))), ((0,), (("a",),)))
'vars a\nsave\nstop a\nsaves 0\ngroup a\n'
''',
    "encode_crashes": '''
>>> from tornsaves.encoding import encode_crashes
>>> encode_crashes([9, 300])
'020009012c'
''',
}


class Examples(unittest.TestCase):
    def test_each_example(self):
        for name, text in EXAMPLES.items():
            known = {}
            *before, last = doctest.DocTestParser().get_examples(TOTAL + text)
            for example in before:
                exec(example.source, known)
            self.assertEqual(repr(eval(last.source, known)), last.want.strip(), name)

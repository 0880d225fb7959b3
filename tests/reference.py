"""Programs for the tests, and a second, plainly written exploration of all states.

Nothing here uses the package. A situation of a run is a tuple of the step, the values, the saved
store, and the number of groups written at the step.
"""

import itertools
import random
from unittest.mock import ANY

TOTAL = (
    ("i", "s", "t"),
    (
        ("save",),
        ("add", "s", "s", "i"),
        ("set", "t", 1),
        ("add", "i", "i", "t"),
        ("set", "t", 4),
        ("less", "t", "i", "t"),
        ("if", "t", 0),
        ("stop", "s"),
    ),
)
ZERO = (0, 0, 0)
TORN = ((0,), (("i",), ("s",)))
WHOLE = ((0,), (("i", "s"),))
EMPTY = ((), ())


class Hostile:
    """A value that cannot be compared."""

    __hash__ = None

    def __eq__(self, other):
        raise RuntimeError("compared")


# Values that are no program, no store, no plan, and no number. ANY is equal to everything.
ODD = [ANY, Hostile()] + [None, True, False, "save", b"save", [], (), {}, set(), {1: 2}, object(), len, ((),), ((), (), ()), [[]], "", -1]


def random_program(seed, variables, steps, saves):
    """A program with the given numbers of variables, of steps, and of saves among them."""
    source = random.Random(seed)
    names = ("a", "b", "c", "d")[:variables]
    places = source.sample(range(steps - 1), saves)
    rows = []
    for k in range(steps):
        x, y, z = (source.choice(names) for _ in range(3))
        if k in places:
            rows.append(("save",))
        elif k == steps - 1:
            rows.append(("stop", x))
        else:
            rows.append(source.choice([
                ("set", x, source.randrange(8)), ("set", x, source.randrange(2)), ("copy", x, y), ("add", x, y, z),
                ("add", x, y, z), ("sub", x, y, z), ("less", x, y, z), ("if", x, source.randrange(steps)),
                ("if", x, source.randrange(steps)), ("if", x, source.randrange(steps)),
            ]))
    return names, tuple(rows)


def some_inputs(program, many):
    """At most this number of inputs of a program."""
    stores = itertools.product((0, 1, 3), repeat=len(program[0]))
    return [store for store in stores if end(program, 0, store) is not None][:many]


def after_step(program, step, values):
    """The next step and the values after one step of the plain run; the next step is None after the stop."""
    names, steps = program
    now = dict(zip(names, values))
    following = step + 1
    match steps[step]:
        case ("set", x, n):
            now[x] = n
        case ("copy", x, y):
            now[x] = now[y]
        case ("add", x, y, z):
            now[x] = (now[y] + now[z]) % 8
        case ("sub", x, y, z):
            now[x] = (now[y] - now[z]) % 8
        case ("less", x, y, z):
            now[x] = int(now[y] < now[z])
        case ("if", x, k):
            following = k if now[x] else following
        case ("go", k):
            following = k
        case ("stop", _):
            following = None
    return following, tuple(now[name] for name in names)


def end(program, step, values):
    """The result and the length of the plain run from a step on, or None."""
    seen = set()
    while (step, values) not in seen:
        seen.add((step, values))
        following, after = after_step(program, step, values)
        if following is None:
            return values[program[0].index(program[1][step][1])], len(seen)
        step, values = following, after
    return None


def after_move(program, plan, situation):
    """The situation after the next move; its step is None after the stop."""
    step, values, saved, written = situation
    saves, groups = plan
    if step in saves and groups:
        saved = tuple(
            values[k] if name in groups[written] else saved[k] for k, name in enumerate(program[0])
        )
        if written < len(groups) - 1:
            return step, values, saved, written + 1
        return step + 1, values, saved, 0
    following, after = after_step(program, step, values)
    return following, after, saved, 0


def situations(program, plan, value):
    """All situations before the stop that can be reached, each with the fewest crashes up to it."""
    found = {}
    rows, crashes = [(0, value, value, 0)], 0
    while rows:
        saved = []
        while rows:
            situation = rows.pop()
            if situation[0] is None or situation in found:
                continue
            found[situation] = crashes
            saved.append(situation[2])
            rows.append(after_move(program, plan, situation))
        crashes += 1
        rows = [row for row in ((0, store, store, 0) for store in saved) if row not in found]
    return found


class Ends:
    """The ends of the plain runs of a program, each computed once."""

    def __init__(self, program):
        self.program = program
        self.known = {}

    def of(self, step, values):
        if (step, values) not in self.known:
            self.known[step, values] = end(self.program, step, values)
        return self.known[step, values]


def decision(program, plan, value, loss=None, ends=None):
    """For one input: the stores, the greatest cost, and the fewest crashes of a bad run or None."""
    ends = ends or Ends(program)
    result = ends.of(0, value)[0]
    stores, costs, bad = set(), [], []
    for (step, values, saved, _), crashes in situations(program, plan, value).items():
        stores.add(saved)
        again, without = ends.of(0, saved), ends.of(step, values)
        if again and without:
            costs.append(again[1] - without[1])
        if again is None or again[0] != result:
            bad.append(crashes + 1)
        elif loss is not None and without and costs[-1] > loss:
            bad.append(crashes + 1)
    return sorted(stores), max(costs), min(bad, default=None)


def is_bad(program, plan, value, crashes, loss=None):
    """Whether a list of numbers describes a bad run, move by move."""
    store, without = value, None
    for moves in crashes:
        situation = (0, store, store, 0)
        for _ in range(moves):
            situation = after_move(program, plan, situation)
            if situation[0] is None:
                return False
        store, without = situation[2], end(program, situation[0], situation[1])
    if not crashes:
        return False
    again = end(program, 0, store)
    if again is None or again[0] != end(program, 0, value)[0]:
        return True
    return loss is not None and without is not None and again[1] - without[1] > loss


def key(plan):
    """The order of plans."""
    saves, groups = plan
    return sum(map(len, groups)), len(saves), len(groups), plan


def every_plan(program):
    """All plans that save something, and the empty one, in their order."""
    names, steps = program
    marks = [k for k, step in enumerate(steps) if step == ("save",)]
    chosen = [rows for size in range(1, len(marks) + 1) for rows in itertools.combinations(marks, size)]
    groups = [row for row in groupings_of(names) if row]
    return sorted([EMPTY] + [(saves, row) for saves in chosen for row in groups], key=key)


def groupings_of(names):
    """All tuples of groups of some of the variables."""
    groups = set()
    # A mark for each variable: 0 if it is not saved, otherwise the place of its group.
    for places in itertools.product(range(len(names) + 1), repeat=len(names)):
        used = sorted(set(places) - {0})
        groups.add(tuple(tuple(n for n, place in zip(names, places) if place == mark) for mark in used))
    return groups


def every_grouping(names):
    """All groupings with exactly these variables, in their order."""
    found = [groups for groups in groupings_of(names) if len(sum(groups, ())) == len(names)]
    return sorted(found, key=lambda groups: (len(groups), groups))


def good_plans(program, inputs, loss=None):
    """The sufficient plans among all plans."""
    ends = Ends(program)
    return [
        plan for plan in every_plan(program)
        if all(decision(program, plan, value, loss, ends)[2] is None for value in inputs)
    ]


def has_all(one, other):
    """Whether a plan contains another one."""
    return set(one[0]) >= set(other[0]) and set(sum(one[1], ())) >= set(sum(other[1], ()))


def halves(plan):
    """The plans that split one group of a plan into two."""
    saves, groups = plan
    for k, group in enumerate(groups):
        for size in range(1, len(group)):
            for first in itertools.combinations(group, size):
                second = tuple(name for name in group if name not in first)
                yield saves, groups[:k] + (first, second) + groups[k + 1:]


def splittings(plan):
    """All plans that split a plan."""
    found = set(halves(plan))
    for one in list(found):
        found |= splittings(one)
    return found


def changed(program, plan):
    """The plans that differ from a plan as the second plan of a breach from the first one."""
    names, steps = program
    saves, groups = plan
    marks = [k for k, step in enumerate(steps) if step == ("save",)]
    if plan == EMPTY:
        return {((mark,), ((name,),)) for mark in marks for name in names}
    found = set(halves(plan))
    found |= {(tuple(sorted(saves + (mark,))), groups) for mark in marks if mark not in saves}
    for name in set(names) - set(sum(groups, ())):
        found |= {(saves, groups[:k] + ((name,),) + groups[k:]) for k in range(len(groups) + 1)}
    return found


def good_groupings(program, saves, names, inputs, loss=None):
    """The sufficient groupings among all groupings."""
    ends = Ends(program)
    return [
        groups for groups in every_grouping(names)
        if all(decision(program, (saves, groups), value, loss, ends)[2] is None for value in inputs)
    ]


def leads(groupings, x, y):
    """Whether one of some groupings has the group of x ahead of that of y."""
    return any(
        [x in group for group in groups].index(True) < [y in group for group in groups].index(True) for groups in groupings
    )


def price(program, plan, weights):
    """The cost of a plan, added up one by one."""
    names, steps = program
    saves, groups = plan
    for_variables, for_saves, for_group = weights
    marks = [k for k, step in enumerate(steps) if step == ("save",)]
    found = 0
    for group in groups:
        found += for_group
        for name in group:
            found += for_variables[names.index(name)]
    for save in saves:
        found += for_saves[marks.index(save)]
    return found


def greatest(program, plan, inputs, ends=None):
    """The greatest cost of a crash in runs from some inputs, or None if the plan is not sufficient."""
    rows = [decision(program, plan, value, None, ends) for value in inputs]
    return None if any(bad is not None for _, _, bad in rows) else max(cost for _, cost, _ in rows)


def with_saves(program, positions):
    """A program with a save before each of some steps."""
    names, steps = program
    rows, places = [], {}
    for k, step in enumerate(steps):
        places[k] = len(rows)
        rows += [("save",), step] if k in positions else [step]
    return names, tuple((*row[:-1], places[row[-1]]) if row[0] in ("if", "go") else row for row in rows)


def place_losses(program, groups, inputs):
    """For all positions, fewer ones first, then as tuples: the greatest cost of a crash, or None."""
    found = []
    for size in range(3):
        for positions in itertools.combinations(range(len(program[1])), size):
            longer = with_saves(program, positions)
            saves = tuple(k for k, step in enumerate(longer[1]) if step == ("save",))
            found.append((positions, greatest(longer, (saves, groups), inputs, Ends(longer))))
    return found


def guarded_program(seed, variables, tests, saves):
    """A program that begins with tests of variables, works, saves, and stops: torn saves lead it astray."""
    source = random.Random(seed)
    names = ("a", "b", "c", "d")[:variables]
    many = tests + 5 + saves
    guards = [("if", source.choice(names), source.randrange(tests, many)) for _ in range(tests)]
    work = [
        source.choice([
            ("set", x, source.randrange(1, 4)), ("set", x, 1), ("copy", x, y), ("less", x, y, z), ("add", x, x, y),
            ("sub", x, x, y), ("if", x, source.randrange(many)),
        ])
        for x, y, z in ([source.choice(names) for _ in range(3)] for _ in range(4))
    ]
    for _ in range(saves):
        work.insert(source.randrange(1, len(work) + 1), ("save",))
    return names, (*guards, *work, ("stop", source.choice(names)))


def renamed(program):
    """The same program with variables whose names do not ascend."""
    names, steps = program
    others = dict(zip(("a", "b", "c", "d"), ("z", "b", "yy", "a")))
    words = [(row[0], *(others[part] if part in names else part for part in row[1:])) for row in steps]
    return tuple(others[name] for name in names), tuple(words)


def on_the_way(program, plan, store):
    """The saved stores after 0, 1, 2, ... moves of the run from a saved store, up to the stop or a situation twice."""
    rows, situation, seen = [], (0, store, store, 0), set()
    while situation[0] is not None and situation not in seen:
        seen.add(situation)
        rows.append(situation[2])
        situation = after_move(program, plan, situation)
    return rows


def runs_up_to(program, plan, value, most):
    """All runs with at most some crashes: the numbers, and the saved store; fewer numbers first, then as lists."""
    rows = [([], value)]
    for _ in range(most + 1):
        yield from rows
        rows = [
            (crashes + [moves], reached)
            for crashes, store in rows for moves, reached in enumerate(on_the_way(program, plan, store))
        ]


def first_runs(program, plan, value):
    """For each store that can be reached, the first list among the shortest ones, by trying all numbers."""
    found, level = {}, {value: []}
    while level:
        found.update(level)
        rows = sorted(
            (crashes + [moves], reached)
            for store, crashes in level.items() for moves, reached in enumerate(on_the_way(program, plan, store))
        )
        level = {reached: crashes for crashes, reached in reversed(rows) if reached not in found}
    return found

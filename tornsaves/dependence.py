"""Groupings: which variables must be written together, and which ones first."""

from tornsaves.deciding import Decisions, Insufficient, check_inputs, check_loss
from tornsaves.errors import InvalidPlan
from tornsaves.evidence import WithRuns, copied_runs
from tornsaves.plans import check_plan, groupings, is_splitting
from tornsaves.programs import check_program


def _check(program, saves, names, inputs, loss):
    check_program(program)
    check_plan(program, (saves, (names,)))
    if not saves:
        raise InvalidPlan("no saves")
    check_inputs(program, inputs)
    check_loss(loss)


def _ordered(names):
    """The groupings of some variables, by the number of their groups, then as tuples."""
    return sorted(groupings(names), key=lambda groups: (len(groups), groups))


def _good_groupings(program, saves, names, inputs, loss):
    _check(program, saves, names, inputs, loss)
    found = Decisions(program, [(saves, groups) for groups in _ordered(names)], inputs, loss)
    return [plan[1] for plan in found.losses]


def sufficient_groupings(program, saves, names, inputs, *, loss=None):
    """The list of the sufficient groupings."""
    return _good_groupings(program, saves, names, inputs, loss)


def finest_groupings(program, saves, names, inputs, *, loss=None):
    """The list of the sufficient groupings that no other one splits."""
    good = _good_groupings(program, saves, names, inputs, loss)
    return [groups for groups in good if not any([is_splitting((saves, one), (saves, groups)) for one in good])]


class Halves:
    """What the groupings with at most two groups tell about some variables.

    These suffice: if a grouping is sufficient, all those are that it splits.
    """

    def __init__(self, program, saves, names, inputs, loss):
        plans = [(saves, groups) for groups in _ordered(names) if len(groups) <= 2]
        self.names = names
        self.whole = (saves, (names,))
        self.found = Decisions(program, plans, inputs, loss)
        self.good = [groups for _, groups in self.found.losses if len(groups) == 2]

    def tied(self):
        """The variables in lists, those in one list that must be written together."""
        rows = []
        for name in self.names:
            home = [row for row in rows if self._are_tied(row[0], name)]
            if home:
                home[0].append(name)
            else:
                rows.append([name])
        return rows

    def _are_tied(self, x, y):
        return not _is_ahead(self.good, x, y) and not _is_ahead(self.good, y, x)

    def leading(self):
        """The pairs of variables of which the first one must be written first."""
        pairs = [(x, y) for x in self.names for y in self.names if _is_ahead(self.good, x, y)]
        return [(x, y) for x, y in pairs if not _is_ahead(self.good, y, x)]

    def are_enough(self, shown):
        """Whether some groupings are sufficient ones with two groups, and show all that can be written ahead."""
        if not all([groups in self.good for groups in shown]):
            return False
        pairs = [(x, y) for first, second in self.good for x in first for y in second]
        return all([_is_ahead(shown, x, y) for x, y in pairs])

    def barred(self):
        """The plans with two groups, and a variable in the first that can't be written ahead of one in the second.

        The grouping with one group is sufficient.
        """
        return [plan for plan in self.found.against if not self._is_open(plan[1])]

    def _is_open(self, groups):
        return all([_is_ahead(self.good, x, y) for x in groups[0] for y in groups[1]])


def _is_ahead(halves, x, y):
    """Whether one of some groupings with two groups has x in the first group and y in the second one."""
    return any([x in first and y in second for first, second in halves])


def dependences(program, saves, names, inputs, *, loss=None):
    """A Dependences, or an Insufficient if no grouping is sufficient."""
    _check(program, saves, names, inputs, loss)
    halves = Halves(program, saves, names, inputs, loss)
    if halves.whole in halves.found.against:
        value, crashes = halves.found.against[halves.whole]
        return Insufficient(value, crashes)
    runs = halves.found.runs_against(halves.barred())
    return Dependences(halves.tied(), halves.leading(), halves.good, runs)


class Dependences(WithRuns):
    """Which variables must be written together, and which ones first, with groupings and runs that show it."""

    NAME = "dependences"

    def __init__(self, together, first, shown, runs):
        WithRuns.__init__(self, runs)
        self.together = [list(names) for names in together]
        self.first = list(first)
        self.shown = list(shown)

    @property
    def fields(self):
        """The list of the fields, in the order of the parameters of the class."""
        return [[list(names) for names in self.together], list(self.first), list(self.shown), copied_runs(self.runs)]

    def is_correct(self, program, saves, names, inputs, *, loss=None):
        """Whether the current fields are a correct result of `dependences`."""
        _check(program, saves, names, inputs, loss)
        halves = Halves(program, saves, names, inputs, loss)
        if halves.whole in halves.found.against or not self.are_from(inputs):
            return False
        if self.together != halves.tied() or self.first != halves.leading() or not halves.are_enough(self.shown):
            return False
        return halves.found.are_refuted(halves.barred(), self.runs)

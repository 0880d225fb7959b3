"""The families of the sufficient plans of small programs."""

from tornsaves.deciding import Decisions, check_inputs, check_loss
from tornsaves.evidence import WithRuns, copied_runs
from tornsaves.plans import all_plans, check_family_size, is_containing, is_splitting, names_in
from tornsaves.programs import check_program


def _check(program, inputs, loss):
    check_program(program)
    check_family_size(program)
    check_inputs(program, inputs)
    check_loss(loss)


def _decisions(program, inputs, loss):
    _check(program, inputs, loss)
    return Decisions(program, all_plans(program), inputs, loss)


def sufficient_plans(program, inputs, *, loss=None):
    """The list of the sufficient plans."""
    return list(_decisions(program, inputs, loss).losses)


def _is_leaner(one, other):
    """Whether the first one of two plans has fewer saved variables or fewer saves."""
    return len(names_in(one[1])) < len(names_in(other[1])) or len(one[0]) < len(other[0])


def minimal_plans(program, inputs, *, loss=None):
    """The list of the sufficient plans that contain none with fewer saved variables or fewer saves."""
    good = list(_decisions(program, inputs, loss).losses)
    return [plan for plan in good if not any([is_containing(plan, one) and _is_leaner(one, plan) for one in good])]


def finest_plans(program, inputs, *, loss=None):
    """The list of the sufficient plans that no other one splits."""
    good = list(_decisions(program, inputs, loss).losses)
    return [plan for plan in good if not any([is_splitting(one, plan) for one in good])]


def _has_one_variable_more(large, small):
    """Whether a plan results from another one by one more group of one variable."""
    if large[0] != small[0]:
        return False
    groups = large[1]
    places = [k for k, group in enumerate(groups) if len(group) == 1]
    return any([groups[:k] + groups[k + 1:] == small[1] for k in places])


def _has_one_save_more(large, small):
    """Whether a plan results from another one by one more save."""
    return large[1] == small[1] and len(large[0]) == len(small[0]) + 1 and is_containing(large, small)


def _is_next(large, small):
    """Whether a plan results from another one by one of the changes that can make a breach."""
    if small == ((), ()):
        return len(large[0]) == 1 and len(names_in(large[1])) == 1
    if _has_one_variable_more(large, small) or _has_one_save_more(large, small):
        return True
    return len(large[1]) == len(small[1]) + 1 and is_splitting(large, small)


def breaches(program, inputs, *, loss=None):
    """The list of the pairs of a sufficient plan and an insufficient one that differ by one change."""
    found = _decisions(program, inputs, loss)
    return [(small, large) for small in found.losses for large in found.against if _is_next(large, small)]


def family(program, inputs, *, loss=None):
    """The Family of a program."""
    found = _decisions(program, inputs, loss)
    return Family(list(found.losses), found.runs_against(list(found.against)))


class Family(WithRuns):
    """All sufficient plans, and runs of which one is bad with each other plan."""

    NAME = "family"

    def __init__(self, plans, runs):
        WithRuns.__init__(self, runs)
        self.plans = list(plans)

    @property
    def fields(self):
        """The list of the fields, in the order of the parameters of the class."""
        return [list(self.plans), copied_runs(self.runs)]

    def is_correct(self, program, inputs, *, loss=None):
        """Whether the current fields are the family of a program, with a bad run for each other plan."""
        found = _decisions(program, inputs, loss)
        if self.plans != list(found.losses) or not self.are_from(inputs):
            return False
        return found.are_refuted(list(found.against), self.runs)

"""Plans: their form, their order, and which of them contain or split others."""

from tornsaves.errors import InvalidPlan, TooLarge
from tornsaves.programs import MOST_STEPS, check_program, is_number, saves_among

FAMILY_VARIABLES = 3
FAMILY_SAVES = 2


def is_plan(program, value):
    """Whether a value of any kind is a plan of a program."""
    if not isinstance(value, tuple) or len(value) != 2:
        return False
    saves, groups = value
    return _are_saves(program, saves) and _are_groups(program, groups)


def _are_saves(program, value):
    if not isinstance(value, tuple) or not all([is_number(save, MOST_STEPS) for save in value]):
        return False
    return list(value) == [save for save in saves_among(program[1]) if save in value]


def _are_groups(program, value):
    if not isinstance(value, tuple) or not all([_is_group(program, group) for group in value]):
        return False
    names = names_in(value)
    return len(set(names)) == len(names)


def _is_group(program, value):
    if not isinstance(value, tuple) or not value or not all([isinstance(name, str) for name in value]):
        return False
    return list(value) == [name for name in program[0] if name in value]


def check_plan(program, plan):
    """Raises InvalidPlan if a value is not a plan of a program."""
    if not is_plan(program, plan):
        raise InvalidPlan("not a plan of the program")


def check_family_size(program):
    """Raises TooLarge if a program has too many plans to list them."""
    variables, steps = program
    if len(variables) > FAMILY_VARIABLES or len(saves_among(steps)) > FAMILY_SAVES:
        raise TooLarge("more than 3 variables or more than 2 saves")


def names_in(groups):
    """The list of the variables in groups, group by group."""
    return [name for group in groups for name in group]


def saved_variables(program, plan):
    """The tuple of the saved variables of a plan, in the order of the program."""
    check_program(program)
    check_plan(program, plan)
    names = names_in(plan[1])
    return tuple([name for name in program[0] if name in names])


def is_splitting(one, other):
    """Whether the first one of two plans splits the second one."""
    if one[0] != other[0] or len(one[1]) <= len(other[1]):
        return False
    rest = list(one[1])
    for group in other[1]:
        parts = []
        while rest and len(parts) < len(group):
            parts.extend(rest.pop(0))
        if sorted(parts) != sorted(group):
            return False
    return not rest


def splits(program, one, other):
    """Whether the first one of two plans splits the second one."""
    check_program(program)
    check_plan(program, one)
    check_plan(program, other)
    return is_splitting(one, other)


def is_containing(one, other):
    """Whether the first one of two plans has all saves and all saved variables of the second one."""
    names = names_in(one[1])
    return all([save in one[0] for save in other[0]]) and all([name in names for name in names_in(other[1])])


def contains(program, one, other):
    """Whether the first one of two plans contains the second one."""
    check_program(program)
    check_plan(program, one)
    check_plan(program, other)
    return is_containing(one, other)


def subsets(parts):
    """All tuples of some of the parts, in their order."""
    found = [()]
    for part in parts:
        found = found + [chosen + (part,) for chosen in found]
    return found


def groupings(names):
    """All tuples of groups with exactly these variables."""
    if not names:
        return [()]
    # The first variable joins each grouping of the others: in a group of its own, or in front in another one.
    first = (names[0],)
    found = []
    for groups in groupings(names[1:]):
        for k in range(len(groups) + 1):
            found.append(groups[:k] + (first,) + groups[k:])
        for k, group in enumerate(groups):
            found.append(groups[:k] + (first + group,) + groups[k + 1:])
    return found


def plan_order(plan):
    """What plans are ordered by."""
    saves, groups = plan
    return len(names_in(groups)), len(saves), len(groups), plan


def all_plans(program):
    """The list of the plans of a program that save something, and of the empty plan, in their order."""
    variables, steps = program
    written = [groups for names in subsets(variables) if names for groups in groupings(names)]
    chosen = [saves for saves in subsets(saves_among(steps)) if saves]
    return sorted([((), ())] + [(saves, groups) for saves in chosen for groups in written], key=plan_order)


def plans(program):
    """The list of all plans of a small program, in their order, without those that save nothing in vain."""
    check_program(program)
    check_family_size(program)
    return all_plans(program)

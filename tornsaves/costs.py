"""What plans cost, and the cheapest ones of the sufficient plans of small programs."""

from tornsaves.deciding import Decisions, check_inputs, check_loss
from tornsaves.errors import InvalidWeights
from tornsaves.evidence import WithRuns, copied_runs
from tornsaves.plans import all_plans, check_family_size, check_plan, names_in
from tornsaves.programs import check_program, is_number, saves_among

MOST_COST = 100


def _are_costs(value, many):
    if not isinstance(value, tuple) or len(value) != many:
        return False
    return all([is_number(part, MOST_COST) for part in value])


def _check_weights(program, weights):
    """Raises InvalidWeights if a value is not a triple of weights of a program."""
    variables, steps = program
    if not isinstance(weights, tuple) or len(weights) != 3 or not is_number(weights[2], MOST_COST):
        raise InvalidWeights("not a triple with a group cost from 0 to 100")
    if not _are_costs(weights[0], len(variables)) or not _are_costs(weights[1], len(saves_among(steps))):
        raise InvalidWeights("not one cost from 0 to 100 for each variable and each save")


def _check(program, inputs, weights, loss):
    check_program(program)
    check_family_size(program)
    check_inputs(program, inputs)
    _check_weights(program, weights)
    check_loss(loss)


def _cost_of(program, plan, weights):
    saves, groups = plan
    names = names_in(groups)
    for_variables = [price for name, price in zip(program[0], weights[0]) if name in names]
    for_saves = [price for save, price in zip(saves_among(program[1]), weights[1]) if save in saves]
    return sum(for_variables) + sum(for_saves) + weights[2] * len(groups)


def plan_cost(program, plan, weights):
    """The cost of a plan."""
    check_program(program)
    check_plan(program, plan)
    _check_weights(program, weights)
    return _cost_of(program, plan, weights)


class Offers:
    """The plans of a program with their costs, and the decisions about them."""

    def __init__(self, program, inputs, weights, loss):
        _check(program, inputs, weights, loss)
        rows = all_plans(program)
        self.prices = {plan: _cost_of(program, plan, weights) for plan in rows}
        self.found = Decisions(program, rows, inputs, loss)

    def best(self):
        """The first sufficient plan with the least cost, and this cost; None for both if there is none."""
        good = list(self.found.losses)
        if not good:
            return None, None
        plan = min(good, key=lambda one: self.prices[one])
        return plan, self.prices[plan]

    def below(self, limit):
        """The list of the plans that cost less than a limit, or of all plans if there is none."""
        return [plan for plan in self.prices if limit is None or self.prices[plan] < limit]


def cheapest(program, inputs, weights, *, loss=None):
    """The Cheapest of a program."""
    offers = Offers(program, inputs, weights, loss)
    plan, price = offers.best()
    return Cheapest(plan, price, offers.found.runs_against(offers.below(price)))


class Cheapest(WithRuns):
    """The sufficient plan with the least cost, this cost, and runs of which one is bad with each cheaper plan."""

    NAME = "cheapest"

    def __init__(self, plan, cost, runs):
        WithRuns.__init__(self, runs)
        self.plan = plan
        self.cost = cost

    @property
    def fields(self):
        """The list of the fields, in the order of the parameters of the class."""
        return [self.plan, self.cost, copied_runs(self.runs)]

    def is_correct(self, program, inputs, weights, *, loss=None):
        """Whether the current fields are a correct result of `cheapest`."""
        offers = Offers(program, inputs, weights, loss)
        plan, price = offers.best()
        if self.plan != plan or self.cost != price or not self.are_from(inputs):
            return False
        return offers.found.are_refuted(offers.below(price), self.runs)


def frontier(program, inputs, weights):
    """The list of triples of the cost, the loss and the plan, of those plans that no other one outdoes."""
    offers = Offers(program, inputs, weights, None)
    rows = [(offers.prices[plan], loss, plan) for plan, loss in offers.found.losses.items()]
    kept = []
    # Of rows that are alike, the first plan stays the first one: the sort keeps their order.
    for row in sorted(rows, key=lambda one: (one[0], one[1])):
        if not kept or row[1] < kept[-1][1]:
            kept.append(row)
    return kept

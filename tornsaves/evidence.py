"""Answers that can be compared and checked."""


def copied_runs(runs):
    """A new list of pairs of an input and a list of numbers."""
    return [(value, list(numbers)) for value, numbers in runs]


class Evidence:
    """The base class of answers."""

    NAME = "evidence"

    @property
    def fields(self):
        """The list of the fields, in the order of the parameters of the class."""
        return []

    def __eq__(self, other):
        if not isinstance(other, Evidence):
            return False
        return self.NAME == other.NAME and self.fields == other.fields


class WithRuns(Evidence):
    """An answer with a list of pairs of an input and a list of numbers."""

    NAME = "with runs"

    def __init__(self, runs):
        self.runs = copied_runs(runs)

    @property
    def fields(self):
        """The list of the fields, in the order of the parameters of the class."""
        return [copied_runs(self.runs)]

    def are_from(self, inputs):
        """Whether all runs begin with one of the inputs."""
        return all([value in inputs for value, _ in self.runs])

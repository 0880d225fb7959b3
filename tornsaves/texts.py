"""Programs with plans as texts."""

from tornsaves.errors import ParseError
from tornsaves.plans import check_plan, is_plan
from tornsaves.programs import FORMS, check_program, is_name, is_program

DIGITS = "0123456789"
MOST_DIGITS = 2
# Which kinds of lines can follow a kind of line; the first line follows None.
FOLLOWING = {
    None: ("vars",),
    "vars": ("step",),
    "step": ("step", "saves"),
    "saves": ("group",),
    "group": ("group",),
}


def _line(row):
    return " ".join([str(part) for part in row]) + "\n"


def written(program, plan):
    """The text of a program with a plan."""
    check_program(program)
    check_plan(program, plan)
    variables, steps = program
    saves, groups = plan
    rows = [("vars",) + variables] + list(steps) + [("saves",) + saves] + [("group",) + group for group in groups]
    return "".join([_line(row) for row in rows])


def _kind(word):
    """What kind of line it is that begins with a word."""
    return "step" if word in FORMS else word


def _form(word, many):
    """The kinds of the parts that follow the first word of a line with this number of parts, or None."""
    if word == "saves":
        return ("step",) * many
    if word in ("vars", "group"):
        # At least one name has to follow.
        return ("variable",) * max(many, 1)
    return FORMS.get(word)


def _is_numeral(word):
    if not 1 <= len(word) <= MOST_DIGITS or not all([digit in DIGITS for digit in word]):
        return False
    return len(word) == 1 or word[0] != "0"


def _part(word, kind):
    """The name or the number that a word denotes, or None."""
    if kind == "variable":
        return word if is_name(word) else None
    return int(word) if _is_numeral(word) else None


def _row(line):
    """The first word of a line with its names and numbers, or None if the line has none of the forms."""
    words = line.split(" ")
    form = _form(words[0], len(words) - 1)
    if form is None or len(form) != len(words) - 1:
        return None
    parts = [_part(word, kind) for word, kind in zip(words[1:], form)]
    return None if None in parts else (words[0],) + tuple(parts)


def _rows(text):
    """The rows of all lines; raises ParseError if a line can't stand there, or if there are too few or half lines."""
    lines = text.split("\n")
    behind = lines.pop()
    rows = []
    last = None
    for index, line in enumerate(lines):
        row = _row(line)
        if row is None or _kind(row[0]) not in FOLLOWING[last]:
            raise ParseError(index)
        last = _kind(row[0])
        rows.append(row)
    if behind or last not in ("saves", "group"):
        raise ParseError(len(lines))
    return rows


def read(text):
    """The pair of a program and a plan that a text denotes."""
    if not isinstance(text, str):
        raise ParseError(0)
    rows = _rows(text)
    steps = [row for row in rows if _kind(row[0]) == "step"]
    saves = rows[len(steps) + 1]
    program = (rows[0][1:], tuple(steps))
    plan = (saves[1:], tuple([row[1:] for row in rows if row[0] == "group"]))
    if not is_program(program) or not is_plan(program, plan):
        raise ParseError(0)
    return program, plan

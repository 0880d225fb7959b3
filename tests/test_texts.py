"""Point 20: programs with plans as texts."""

import random
import re
import unittest
from unittest.mock import ANY

from tests.reference import EMPTY, ODD, TOTAL, TORN, WHOLE, Hostile, every_plan, random_program, renamed
from tests.test_plans import BAD_PLANS, SAVES
from tornsaves.errors import InvalidPlan, InvalidProgram, ParseError
from tornsaves.texts import read, written

TEXT = (
    "vars i s t\nsave\nadd s s i\nset t 1\nadd i i t\nset t 4\nless t i t\nif t 0\nstop s\nsaves 0\ngroup i\ngroup s\n"
)
# Every kind of step, three saves, and numbers with two digits.
LONG = (("set", "if", "abcdefgh", "x"), (
    ("set", "set", 7), ("copy", "if", "set"), ("add", "x", "if", "if"), ("sub", "abcdefgh", "x", "set"), ("less", "x", "x", "if"),
    ("save",), ("if", "x", 10), ("go", 15), ("copy", "x", "x"), ("save",), ("set", "if", 0), ("copy", "x", "x"), ("save",),
    ("if", "if", 0), ("set", "x", 1), ("stop", "abcdefgh"),
))
LONG_PLAN = ((5, 9, 12), (("if", "x"), ("set",), ("abcdefgh",)))
LONG_TEXT = """vars set if abcdefgh x
set set 7
copy if set
add x if if
sub abcdefgh x set
less x x if
save
if x 10
go 15
copy x x
save
set if 0
copy x x
save
if if 0
set x 1
stop abcdefgh
saves 5 9 12
group if x
group set
group abcdefgh
"""
SMALL = "vars a\nsave\nstop a\nsaves 0\ngroup a\n"

NAME = "[a-z]{1,8}"
NUMBER = "(?:[0-9]|[1-9][0-9])"
FORMS = {
    "vars": f"vars(?: {NAME})+",
    "step": f"set {NAME} {NUMBER}|copy {NAME} {NAME}|(?:add|sub|less) {NAME} {NAME} {NAME}|if {NAME} {NUMBER}|go {NUMBER}"
            f"|save|stop {NAME}",
    "saves": f"saves(?: {NUMBER})*",
    "group": f"group(?: {NAME})+",
}


def plainly_read(text):
    """A program and a plan, or the line at fault, read by patterns."""
    whole = re.findall("[^\n]*\n", text)
    sorts = []
    for k, line in enumerate(whole):
        sorts += [sort for sort, form in FORMS.items() if re.fullmatch(form, line[:-1])]
        order = " ".join(sorts)
        if len(sorts) <= k or not re.fullmatch("vars(?:(?: step)*|(?: step)+ saves(?: group)*)", order):
            return k
    if "saves" not in sorts or not text.endswith("\n"):
        return len(whole)
    rows = [tuple(int(word) if word[0] in "0123456789" else word for word in line.split()) for line in whole]
    program = rows[0][1:], tuple(row for row, sort in zip(rows, sorts) if sort == "step")
    plan = rows[sorts.index("saves")][1:], tuple(row[1:] for row, sort in zip(rows, sorts) if sort == "group")
    return (program, plan) if is_sound(program, plan) else 0


def is_sound(program, plan):
    """Whether names and numbers of the right kinds form a program and a plan."""
    (names, steps), (saves, groups) = program, plan
    marks = [k for k, step in enumerate(steps) if step[0] == "save"]
    if len(names) > 4 or len(set(names)) < len(names) or len(steps) > 16 or len(marks) > 3 or steps[-1][0] not in ("go", "stop"):
        return False
    for word, *parts in steps:
        if not {part for part in parts if isinstance(part, str)} <= set(names):
            return False
        if any(part > (7 if word == "set" else len(steps) - 1) for part in parts if isinstance(part, int)):
            return False
    used = [name for group in groups for name in group]
    in_order = [sorted(group, key=names.index) == list(group) for group in groups if set(group) <= set(names)]
    return (
        len(in_order) == len(groups) and all(in_order) and len(set(used)) == len(used)
        and sorted(set(saves)) == list(saves) and set(saves) <= set(marks)
    )


class Written(unittest.TestCase):
    def test_example(self):
        self.assertEqual(written((("a",), (("save",), ("stop", "a"))), ((0,), (("a",),))), SMALL)

    def test_texts(self):
        self.assertEqual(written(TOTAL, TORN), TEXT)
        self.assertEqual(written(LONG, LONG_PLAN), LONG_TEXT)

    def test_no_saves_and_no_groups(self):
        program = (("a",), (("save",), ("stop", "a")))
        self.assertEqual(written(program, EMPTY), "vars a\nsave\nstop a\nsaves\n")
        self.assertEqual(written(program, ((), (("a",),))), "vars a\nsave\nstop a\nsaves\ngroup a\n")
        self.assertEqual(written(program, ((0,), ())), "vars a\nsave\nstop a\nsaves 0\n")
        self.assertEqual(written((("a",), (("go", 0),)), EMPTY), "vars a\ngo 0\nsaves\n")

    def test_errors(self):
        for value in ODD:
            self.assertRaises(InvalidProgram, written, value, EMPTY)
        for value in BAD_PLANS:
            self.assertRaises(InvalidPlan, written, SAVES, value)
        self.assertRaises(InvalidProgram, written, None, None)


class Read(unittest.TestCase):
    def test_texts(self):
        self.assertEqual(read(TEXT), (TOTAL, TORN))
        self.assertEqual(read(LONG_TEXT), (LONG, LONG_PLAN))
        self.assertEqual(read("vars a\ngo 0\nsaves\n"), ((("a",), (("go", 0),)), EMPTY))
        self.assertEqual(read("vars a\nstop a\nsaves\ngroup a\n"), ((("a",), (("stop", "a"),)), ((), (("a",),))))

    def test_kinds_of_the_answer(self):
        found = read(TEXT)
        program, plan = found
        for value in (found, program, *program, *program[1], plan, *plan, *plan[1]):
            self.assertIs(type(value), tuple)

    def test_reads_back_what_is_written(self):
        for seed in range(60):
            program = random_program(seed, 1 + seed % 4, 4 + seed % 13, seed % 4 % (3 + seed % 13))
            for made in (program, renamed(program)):
                for plan in every_plan(made)[seed % 3::40] + [EMPTY, ((), (made[0],))]:
                    text = written(made, plan)
                    self.assertEqual(read(text), (made, plan))
                    self.assertEqual(plainly_read(text), (made, plan))
                    self.assertEqual(written(*read(text)), text)

    def assertLine(self, line, text):
        with self.assertRaises(ParseError) as caught:
            read(text)
        self.assertEqual(caught.exception.line, line, text)

    def test_values_that_are_no_strings(self):
        for value in ODD + [SMALL.encode(), [SMALL], (SMALL,), list(SMALL), (TOTAL, TORN), TOTAL, 0, ANY, Hostile()]:
            self.assertLine(0, value)

    def test_missing_lines(self):
        self.assertLine(0, "")
        self.assertLine(1, "vars a\n")
        self.assertLine(2, "vars a\nstop a\n")
        self.assertLine(3, "vars a\nsave\nstop a\n")
        self.assertLine(1, "vars a\nsaves\n")
        self.assertLine(0, "saves\n")
        self.assertLine(0, "stop a\nsaves\n")
        self.assertLine(1, "vars a\ngroup a\n")
        self.assertLine(2, "vars a\nstop a\ngroup a\n")

    def test_characters_behind_the_last_line_feed(self):
        self.assertLine(0, "vars a")
        self.assertLine(1, "vars a\nstop a")
        self.assertLine(2, "vars a\nstop a\nsaves")
        self.assertLine(4, SMALL[:-1])
        self.assertLine(5, SMALL + " ")
        self.assertLine(5, SMALL + "group a")
        self.assertLine(5, SMALL + "\r")
        self.assertLine(0, " ")
        self.assertLine(0, "\r")
        self.assertEqual(len(TEXT.splitlines()), 12)
        self.assertLine(11, TEXT[:-1])
        self.assertLine(12, TEXT + "x")

    def test_the_first_line_at_fault_comes_before_what_is_behind(self):
        self.assertLine(1, "vars a\nstop  a\nsaves\nx")
        self.assertLine(1, "vars a\nstop  a\n")
        self.assertLine(1, "vars a\nstop\nsave a\nsaves")
        self.assertLine(4, "vars a\nsave\nstop a\nsaves 0\ngroup\ngroup a b\nx")

    def test_missing_lines_come_before_values(self):
        self.assertLine(2, "vars a a\nstop b\n")
        self.assertLine(3, "vars a a\nstop b\nsaves 7\nx")
        self.assertLine(3, "vars a a\nstop b\nsaves\ngroup a")
        self.assertLine(2, "vars a b c d e\nstop f\nsaves 07\n")
        self.assertLine(3, "vars a a\nstop b\nsaves 7\ngroup\ngroup c\n")

    def test_empty_lines(self):
        self.assertLine(0, "\n")
        self.assertLine(0, "\n" + SMALL)
        self.assertLine(5, SMALL + "\n")
        for k in range(1, 5):
            rows = SMALL.splitlines(True)
            self.assertLine(k, "".join(rows[:k] + ["\n"] + rows[k:]))

    def test_lines_at_wrong_places(self):
        for line, text in [
            (1, "vars a\nvars a\nstop a\nsaves\n"), (2, "vars a\nstop a\nvars a\nsaves\n"),
            (3, "vars a\nstop a\nsaves\nstop a\n"), (3, "vars a\nstop a\nsaves\nsaves\n"),
            (3, "vars a\nstop a\nsaves\nvars a\n"), (2, "vars a\nstop a\ngroup a\nsaves\n"),
            (4, "vars a\nstop a\nsaves\ngroup a\nsaves\n"), (4, "vars a\nstop a\nsaves\ngroup a\nstop a\n"),
            (0, "stop a\nvars a\nsaves\n"), (0, "group a\n"), (4, "vars a\nstop a\nsaves\ngroup a\nvars a\n"),
            (4, "vars a\nsave\nstop a\nsaves 0\nsave\n"), (1, "vars a\nsaves\nstop a\n"),
        ]:
            self.assertLine(line, text)

    def test_lines_of_other_forms(self):
        for line in [
            "", " ", "set", "set a", "set a ", "set a 1 ", " set a 1", "set  a 1", "set a  1", "set a 1 1", "set a b", "set 1 a",
            "set a 01", "set a 00", "set a 100", "set a 007", "set a -1", "set a +1", "set a 1.", "set a 1_0", "set a \u0663",
            "set a \u00b2", "set a\t1", "set\ta 1", "set a 1\r", "set a 1\t", "set a 1\x0b", "set a\u00a01", "set A 1",
            "set a1 1", "set abcdefghi 1", "set \u00e4 1", "set a True", "set a 0x1", "SET a 1", "Set a 1", "copy a", "copy a 1",
            "copy a a a", "copy", "add a a", "add a a 1", "add a a a a", "sub a a", "less a a", "less a a a a", "if a", "if a b",
            "if 0 a", "if a 000", "if a 16 1", "go", "go a", "go 1 1", "go 01", "go 123", "save a", "save 0", "save ", "stop",
            "stop 1", "stop a a", "stop a ", "mul a a a", "stopa", "stop_a", "stop,a", "#", "0", "a", "set a 1 # one",
            "stop a\x0c", "stop a\x1c", "stop a\x85", "stop a\u2028", "stop a\x00", "\ufeffstop a", "stop a;stop a",
        ]:
            self.assertLine(2, f"vars a\nsave\n{line}\nstop a\nsaves 0\ngroup a\n")
            self.assertLine(2, f"vars a\nsave\n{line}\n{line}\n")
            self.assertEqual(plainly_read(f"vars a\nsave\n{line}\nstop a\nsaves 0\ngroup a\n"), 2)

    def test_other_lines_of_other_forms(self):
        for line in [
            "vars", "vars ", "vars 1", "vars a ", "vars  a", "vars a  b", "vars A", "vars abcdefghi", "vars a,b", "var a",
            "Vars a", "variables a", "vars\ta", " vars a", "vars a1", "\ufeffvars a",
        ]:
            self.assertLine(0, SMALL.replace("vars a", line))
        for line in [
            "saves ", "saves a", "saves 00", "saves 01", "saves 0  1", "saves 100", "saves -1", "saves 0 ", "saves 0,1", "save 0",
            "Saves 0", "saves\t0", " saves 0", "saves \u0660", "saves0", "",
        ]:
            self.assertLine(3, SMALL.replace("saves 0", line))
        for line in [
            "group", "group ", "group 1", "group a ", "group  a", "group a  a", "group A", "group abcdefghi", "groups a",
            "Group a", "group a,a", " group a", "group\ta", "group a 0", "",
        ]:
            self.assertLine(4, SMALL.replace("group a", line))
            self.assertLine(5, SMALL + line + "\n")

    def test_other_ends_of_lines(self):
        self.assertLine(0, SMALL.replace("\n", "\r\n"))
        self.assertLine(0, SMALL.replace("\n", "\r"))
        for end in ("\r", "\x0b", "\x0c", "\x1c", "\x85", "\u2028"):
            self.assertLine(0, SMALL.replace("\n", end + "\n", 1))
            self.assertLine(0, "vars a" + end + "stop a\nsaves\n")

    def test_values_that_form_no_program(self):
        for text in [
            "vars a b c d e\nstop a\nsaves\n", "vars a a\nstop a\nsaves\n", "vars a b a\nstop a\nsaves\n",
            "vars a\nstop b\nsaves\n", "vars a\nset a 8\nstop a\nsaves\n", "vars a\nset a 99\nstop a\nsaves\n",
            "vars a\nset b 1\nstop a\nsaves\n", "vars a\nif a 2\nstop a\nsaves\n", "vars a\ngo 1\nsaves\n",
            "vars a\ngo 16\nsaves\n", "vars a\ncopy a b\nstop a\nsaves\n", "vars a\nsave\nsaves\n",
            "vars a\nset a 1\nsaves\n", "vars a\nif a 0\nsaves\n", "vars a\n" + "save\n" * 4 + "stop a\nsaves\n",
            "vars a\n" + "copy a a\n" * 16 + "stop a\nsaves\n", "vars a\nstop vars\nsaves\n",
            "vars " + " ".join("abcdefgh") + "\nstop a\nsaves\n",
        ]:
            self.assertLine(0, text)
            self.assertEqual(plainly_read(text), 0)
        self.assertEqual(len(read("vars a\n" + "copy a a\n" * 15 + "stop a\nsaves\n")[0][1]), 16)

    def test_values_that_form_no_plan(self):
        start = "vars a b c\nsave\ncopy a b\nsave\nstop a\n"
        for text in [
            "saves 1\n", "saves 4\n", "saves 5\n", "saves 99\n", "saves 2 0\n", "saves 0 0\n", "saves 0 2 2\n", "saves 0 1\n",
            "saves 0\ngroup d\n", "saves 0\ngroup a a\n", "saves 0\ngroup b a\n", "saves 0\ngroup a\ngroup a\n",
            "saves 0\ngroup a b\ngroup b c\n", "saves 0\ngroup c a\n",
            "saves\ngroup a\ngroup b\ngroup a\n", "saves 0\ngroup save\n", "saves 3\n",
        ]:
            self.assertLine(0, start + text)
            self.assertEqual(plainly_read(start + text), 0)
        self.assertEqual(read(start + "saves 0 2\ngroup b\ngroup a c\n")[1], ((0, 2), (("b",), ("a", "c"))))

    def test_names_that_are_words_of_the_text(self):
        for name in ("vars", "saves", "group", "save", "stop", "set"):
            text = f"vars {name}\nsave\nset {name} 1\nstop {name}\nsaves 0\ngroup {name}\n"
            self.assertEqual(read(text), (((name,), (("save",), ("set", name, 1), ("stop", name))), ((0,), ((name,),))))


class AgainstThePlainReader(unittest.TestCase):
    def check(self, text):
        known = plainly_read(text)
        try:
            self.assertEqual(read(text), known, text)
        except ParseError as fault:
            self.assertEqual(fault.line, known, text)
        return known

    def texts(self):
        yield from (TEXT, LONG_TEXT, SMALL, written(TOTAL, WHOLE), written(SAVES, ((0, 2), (("a", "c"), ("b",)))))
        for seed in range(6):
            program = random_program(seed, 1 + seed % 4, 5 + seed, 1 + seed % 3)
            yield written(program, every_plan(program)[-1])

    def test_one_line_is_removed_repeated_or_moved(self):
        for text in self.texts():
            rows = text.splitlines(True)
            for k, row in enumerate(rows):
                rest = rows[:k] + rows[k + 1:]
                for at in range(len(rows)):
                    self.check("".join(rest[:at] + [row] + rest[at:]))
                    self.check("".join(rows[:at] + [row] + rows[at:]))
                self.check("".join(rest))
                self.check("".join(rows[:k]))
                self.check("".join(rows[:k]) + row[:-1])
                self.check("".join(rest) + row[:-1])

    def test_one_line_is_changed(self):
        for text in self.texts():
            rows = text.splitlines(True)
            for k, row in enumerate(rows):
                words = row.split()
                others = [words[:at] + words[at + 1:] for at in range(len(words))]
                for at in range(len(words) + 1):
                    for word in ("a", "i", "zz", "0", "5", "8", "16", "05", "save", "", "A"):
                        others += [words[:at] + [word] + words[at:], words[:at] + [word] + words[at + 1:]]
                for other in others:
                    self.check("".join(rows[:k] + [" ".join(other) + "\n"] + rows[k + 1:]))

    def test_one_character_is_changed(self):
        for text in (SMALL, TEXT, LONG_TEXT):
            for at in range(len(text) + 1):
                for other in ("", " ", "\n", "0", "1", "a", "s", "S", "\t", "\r", "-"):
                    self.check(text[:at] + other + text[at:])
                    self.check(text[:at] + other + text[at + 1:])

    def test_lines_at_random(self):
        lines = [
            "vars a", "vars a b", "save", "set a 1", "copy a b", "if a 1", "go 0", "stop a", "saves", "saves 0", "saves 1",
            "group a", "group b",
        ]
        source, sound, places = random.Random(3), 0, set()
        for _ in range(40000):
            size = source.randrange(3, 7)
            steps, others = source.choices(lines[2:8], k=size - 3), source.choices(lines[2:], k=source.randrange(4))
            rows = [source.choice(lines[:2]), *steps, *others]
            if source.random() < 0.3:
                rows[source.randrange(len(rows))] = source.choice(lines)
            known = self.check("".join(row + "\n" for row in rows))
            sound += isinstance(known, tuple)
            places.add(known if isinstance(known, int) else None)
        self.assertGreater(sound, 300)
        self.assertTrue({0, 1, 2, 3, 4, 5} <= places)

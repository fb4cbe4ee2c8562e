"""Each example of the interface, as examples.txt tells it: a call, and what it answers or raises; and those of README."""

import ast
import builtins
import doctest
import unittest
from pathlib import Path

EXAMPLES = Path(__file__).with_name("examples.txt")
README = Path(__file__).parent.parent / "README.md"


def blocks():
    """The examples, as pairs of a heading and a list of pairs (call, answer), the answer None for an import."""
    found = []
    for block in EXAMPLES.read_text().strip().split("\n\n"):
        heading, *lines = block.split("\n")
        steps = []
        for line in lines:
            if line.startswith(">>> "):
                steps.append([line[4:], None])
            else:
                steps[-1][1] = line
        found.append((heading, steps))
    return found


def answer_of(call, names):
    try:
        return repr(eval(call, names))
    except ValueError as error:
        fields = ", ".join(f"{name}={value!r}" for name, value in vars(error).items())
        return f"raises {error.__class__.__name__}({fields})"


class TestExamples(unittest.TestCase):
    def test_examples(self):
        self.assertGreater(len(blocks()), 0)
        for heading, steps in blocks():
            names = {}
            for call, answer in steps:
                with self.subTest(heading, call=call):
                    if answer is None:
                        exec(compile(ast.parse(call), heading, "exec"), names)
                    else:
                        self.assertEqual(answer_of(call, names), answer)

    def test_readme(self):
        # What is shown last stays there as _, which other tests would take for a builtin.
        self.addCleanup(vars(builtins).pop, "_", None)
        failed, tried = doctest.testfile(str(README), module_relative=False)
        self.assertEqual(failed, 0)
        self.assertGreater(tried, 0)

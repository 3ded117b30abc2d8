"""The form of the package: its interface, and the rules for the code that are easy to check."""

import ast
import inspect
import pathlib
import unittest

from stackworks import console, decisions, effects, errors, moments, origins, powers, programs, sessions, shorten
from stackworks import shuffles, stacks, undoing, units

PACKAGE = pathlib.Path(__file__).parent.parent / "stackworks"
LIBRARY = {"heapq", "math", "itertools", "collections"}
INTERFACE = {
    programs: ["Program", "word_at", "words_from", "count_word", "written"],
    effects: ["Effect", "effect_of", "same_effect"],
    errors: ["StackError", "InvalidText", "InvalidCommand"],
    units: ["link", "unit", "unit_names", "unit_steps", "unit_effect"],
    stacks: ["run", "states"],
    powers: ["cell_after", "first_time", "settles"],
    moments: ["effect_at", "stack_at", "place_at", "next_at"],
    origins: ["origin_at", "arrived_at", "first_with"],
    shuffles: ["shuffled", "can_reach", "fewest", "plan"],
    undoing: ["fewest_for", "program_for", "can_undo", "undo_for", "steps_to_go", "lost_from"],
    decisions: ["possible_sources", "certain_source", "is_decided", "choices_for", "effects_of"],
    shorten: ["shortest", "shorten", "saved"],
    sessions: ["Session"],
    console: ["Console"],
}
METHODS = {
    programs.Program: ["__init__", "__len__", "__contains__", "__add__", "__mul__", "__eq__"],
    effects.Effect: ["__init__", "__call__", "__len__", "__add__", "__mul__", "__eq__", "source"],
    sessions.Session: ["__init__", "__len__", "__eq__", "go", "ahead", "run_to", "poke", "undo", "log", "preview",
                       "of"],
    console.Console: ["say"],
}
PROPERTIES = {
    programs.Program: ["text", "need", "rise", "growth", "is_plain", "steps"],
    effects.Effect: ["taken", "left", "growth"],
    sessions.Session: ["program", "stack", "step", "base"],
}


class InterfaceTest(unittest.TestCase):
    def test_names_are_defined_in_their_files(self):
        for module, names in INTERFACE.items():
            for name in names:
                self.assertEqual(getattr(module, name).__module__, module.__name__, name)

    def test_methods_are_defined_in_their_classes(self):
        for one, names in METHODS.items():
            for name in names:
                self.assertIn(name, vars(one))

    def test_arguments(self):
        table = [
            (programs.Program, "(text)"), (programs.word_at, "(program, index)"),
            (programs.words_from, "(program, index)"), (programs.count_word, "(program, word)"),
            (programs.written, "(program)"), (effects.Effect, "(taken, left)"),
            (effects.Effect.source, "(self, depth)"), (effects.effect_of, "(program, *, choices='')"),
            (effects.same_effect, "(program, other)"),
            (units.link, "(source_text)"), (units.unit, "(source_text, name)"), (units.unit_names, "(source_text)"),
            (units.unit_steps, "(source_text, name)"), (units.unit_effect, "(source_text, name)"),
            (stacks.run, "(program, stack, *, choices='')"), (stacks.states, "(program, stack)"),
            (powers.cell_after, "(effect, times, depth)"), (powers.first_time, "(effect, depth, source)"),
            (powers.settles, "(effect)"), (moments.effect_at, "(program, step)"),
            (moments.stack_at, "(program, step, stack)"), (moments.place_at, "(program, step)"),
            (moments.next_at, "(program, step, index)"),
            (origins.origin_at, "(program, step, depth)"), (origins.arrived_at, "(program, step, depth)"),
            (origins.first_with, "(program, depth, source)"), (shuffles.shuffled, "(pile, program)"),
            (shuffles.can_reach, "(pile, goal)"), (shuffles.fewest, "(pile, goal)"), (shuffles.plan, "(pile, goal)"),
            (undoing.fewest_for, "(effect)"), (undoing.program_for, "(effect)"), (undoing.can_undo, "(effect)"),
            (undoing.undo_for, "(effect)"), (undoing.steps_to_go, "(program, step, effect)"),
            (undoing.lost_from, "(program, effect)"), (decisions.possible_sources, "(program, depth)"),
            (decisions.certain_source, "(program, depth)"), (decisions.is_decided, "(program)"),
            (decisions.choices_for, "(program, depth, source)"), (decisions.effects_of, "(program)"),
            (shorten.shortest, "(program)"), (shorten.shorten, "(program)"), (shorten.saved, "(program)"),
            (sessions.Session, "(program, stack)"), (sessions.Session.of, "(text, *cells)"),
            (sessions.Session.go, "(self, step)"), (sessions.Session.ahead, "(self, *, steps=1)"),
            (sessions.Session.run_to, "(self, index)"), (sessions.Session.poke, "(self, depth, value)"),
            (sessions.Session.undo, "(self)"), (sessions.Session.log, "(self)"),
            (sessions.Session.preview, "(self, *operations)"),
            (console.Console, "()"), (console.Console.say, "(self, row)"),
        ]
        for value, arguments in table:
            self.assertEqual(str(inspect.signature(value)), arguments)

    def test_properties_are_defined_in_their_classes(self):
        for one, names in PROPERTIES.items():
            for name in names:
                self.assertIsInstance(vars(one)[name], property)

    def test_properties_are_there_on_each_object(self):
        for value in (programs.Program(""), programs.Program("{ | }"), programs.Program("r1") * 3,
                      programs.Program("r1") + programs.Program("d"), effects.Effect(0, ()),
                      sessions.Session.of("r1", 1, 2), sessions.Session(programs.Program(""), ()),
                      effects.Effect(0, ()) + effects.Effect(1, ()), effects.effect_of(programs.Program("7"))):
            for name in PROPERTIES[type(value)]:
                self.assertTrue(hasattr(value, name))
                before = getattr(value, name)
                with self.assertRaises(AttributeError):
                    setattr(value, name, 7)
                self.assertEqual(getattr(value, name), before)


class CodeTest(unittest.TestCase):
    def files(self):
        for path in sorted(PACKAGE.glob("*.py")):
            yield path, path.read_text(encoding="utf-8")

    def test_the_folder_contains_only_code(self):
        names = [path.name for path in PACKAGE.iterdir() if path.name != "__pycache__"]
        self.assertEqual([name for name in names if not name.endswith(".py")], [])
        self.assertIn("__init__.py", names)

    def test_sizes_and_characters(self):
        for path, text in self.files():
            lines = text.split("\n")
            self.assertLess(len(lines), 401, path)
            for number, line in enumerate(lines, 1):
                self.assertLess(len(line), 121, (path, number))
            self.assertTrue(all(char == "\n" or " " <= char <= "~" for char in text), path)
            for node in ast.walk(ast.parse(text)):
                if isinstance(node, ast.FunctionDef):
                    self.assertLess(node.end_lineno - node.lineno, 40, (path, node.name))

    def test_imports(self):
        for path, text in self.files():
            tree = ast.parse(text)
            imports = [node for node in ast.walk(tree) if isinstance(node, (ast.Import, ast.ImportFrom))]
            for node in imports:
                self.assertIsInstance(node, ast.ImportFrom, path)
                self.assertIn(node, tree.body, path)
                self.assertEqual(node.level, 0, path)
                self.assertTrue(node.module.startswith("stackworks.") or node.module in LIBRARY, path)

    def test_no_floats_and_no_division(self):
        for path, text in self.files():
            for node in ast.walk(ast.parse(text)):
                self.assertNotIsInstance(node, (ast.Div, ast.Global, ast.AsyncFunctionDef), path)
                self.assertFalse(isinstance(node, ast.Constant) and isinstance(node.value, (float, complex)), path)


if __name__ == "__main__":
    unittest.main()

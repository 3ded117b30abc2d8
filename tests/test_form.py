"""The form of what operators and properties call: it changes only what it created itself."""

import ast
import pathlib
import unittest

PACKAGE = pathlib.Path(__file__).parent.parent / "stackworks"
CHANGING = {"append", "pop", "extend", "insert", "remove", "clear", "update", "setdefault", "reverse", "sort", "add",
            "discard"}
ROOTS = {"__add__", "__mul__", "__contains__", "__eq__", "__len__"}


def is_property(node):
    return any(isinstance(one, ast.Name) and one.id == "property" for one in node.decorator_list)


def is_new(value):
    """Return whether an expression surely makes a new list, dict or set."""
    if isinstance(value, (ast.List, ast.Dict, ast.Set, ast.ListComp, ast.DictComp, ast.SetComp)):
        return True
    if isinstance(value, ast.Call):
        called = value.func
        return isinstance(called, ast.Name) and called.id in ("list", "dict", "set", "sorted") \
            or isinstance(called, ast.Attribute) and called.attr == "copy"
    return isinstance(value, ast.Subscript) and isinstance(value.slice, ast.Slice)


class Form:
    """The functions of the package by name, and those that operators and properties reach."""

    def __init__(self):
        self.functions, self.classes, self.properties, roots = {}, {}, {}, []
        for path in sorted(PACKAGE.glob("*.py")):
            for node in ast.parse(path.read_text(encoding="utf-8")).body:
                if isinstance(node, ast.FunctionDef):
                    self.functions[node.name] = node
                elif isinstance(node, ast.ClassDef):
                    methods = [one for one in node.body if isinstance(one, ast.FunctionDef)]
                    self.classes[node.name] = [one for one in methods if one.name == "__init__"]
                    self.properties.update({one.name: one for one in methods if is_property(one)})
                    roots += [one for one in methods if is_property(one) or one.name in ROOTS]
        self.reached = []
        while roots:
            node = roots.pop()
            if node not in self.reached:
                self.reached.append(node)
                roots += self.called(node)

    def called(self, node):
        for one in ast.walk(node):
            if isinstance(one, ast.Name) and one.id in self.functions:
                yield self.functions[one.id]
            elif isinstance(one, ast.Name) and one.id in self.classes:
                yield from self.classes[one.id]
            elif isinstance(one, ast.Attribute) and one.attr in self.properties:
                yield self.properties[one.attr]


def changed_values(node):
    """Return the expressions that a function changes: lists and dicts, and objects whose attributes are assigned."""
    for one in ast.walk(node):
        targets = []
        if isinstance(one, ast.Call) and isinstance(one.func, ast.Attribute) and one.func.attr in CHANGING:
            yield one.func.value
        elif isinstance(one, (ast.Assign, ast.Delete)):
            targets = one.targets
        elif isinstance(one, (ast.AugAssign, ast.AnnAssign, ast.For)):
            targets = [one.target]
        for target in targets:
            for part in ast.walk(target):
                if isinstance(part, (ast.Subscript, ast.Attribute)):
                    yield part.value


def values_of(node, name):
    """Return all that a function assigns to a name, with None for what is not a plain assignment."""
    found = [None for one in node.args.args if one.arg == name]
    for one in ast.walk(node):
        if isinstance(one, ast.Assign):
            for target in one.targets:
                if isinstance(target, ast.Name) and target.id == name:
                    found.append(one.value)
                elif name in [part.id for part in ast.walk(target) if isinstance(part, ast.Name)] \
                        and not isinstance(target, (ast.Subscript, ast.Attribute)):
                    found.append(None)
        elif isinstance(one, (ast.For, ast.AugAssign, ast.comprehension)):
            if name in [part.id for part in ast.walk(one.target) if isinstance(part, ast.Name)]:
                found.append(None)
    return found


class FormTest(unittest.TestCase):
    def test_operators_and_properties_change_only_what_is_new(self):
        form = Form()
        names = {node.name for node in form.reached}
        self.assertTrue({"text_sizes", "row_of", "run_cells", "repeated_move", "effect_with"} <= names)
        for node in form.reached:
            for value in changed_values(node):
                where = (node.name, ast.unparse(value))
                self.assertIsInstance(value, ast.Name, where)
                if value.id == "self" and (node.name == "__init__" or is_property(node)):
                    continue
                for assigned in values_of(node, value.id):
                    created = isinstance(assigned, ast.Call) and isinstance(assigned.func, ast.Name) \
                        and assigned.func.id in form.classes
                    self.assertTrue(assigned is not None and (is_new(assigned) or created), where)

    def test_kept_answers(self):
        for node in Form().properties.values():
            body = [one for one in node.body if not (isinstance(one, ast.Expr) and isinstance(one.value, ast.Constant))]
            if len(body) == 1:
                self.assertIsInstance(body[0], ast.Return, node.name)
                continue
            test, answer = body
            kept = ast.unparse(answer.value)
            self.assertEqual(kept, f"self._{node.name}")
            self.assertEqual(ast.unparse(test.test), f"{kept} is None")
            self.assertEqual([ast.unparse(one.targets[0]) for one in test.body], [kept])

    def test_no_other_change_in_place(self):
        for path in sorted(PACKAGE.glob("*.py")):
            for node in ast.walk(ast.parse(path.read_text(encoding="utf-8"))):
                self.assertNotIsInstance(node, (ast.AugAssign, ast.Lambda, ast.GeneratorExp), path)
                self.assertFalse(isinstance(node, ast.Attribute) and node.attr == "sort", path)

    def test_no_name_is_a_property_and_an_attribute(self):
        properties = set(Form().properties)
        for path in sorted(PACKAGE.glob("*.py")):
            for node in ast.walk(ast.parse(path.read_text(encoding="utf-8"))):
                if isinstance(node, ast.Attribute) and isinstance(node.ctx, ast.Store):
                    self.assertNotIn(node.attr, properties, path)


if __name__ == "__main__":
    unittest.main()

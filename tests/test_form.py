"""Those rules of LANGUAGE.md that a look at the package's files can check."""

import ast
import builtins
import re
import unittest
import warnings
from pathlib import Path

PACKAGE = Path(__file__).parent.parent / "handsweeps"
FILES = sorted(PACKAGE.rglob("*.py"))
METHODS = re.compile(
    "__(init|eq|repr|str|len|enter|exit|call|iter|lt|le|gt|ge|ne|r?add|r?sub|r?mul|r?floordiv|r?mod|pow|r?and|r?or"
    "|r?xor|r?lshift|r?rshift|neg|pos|invert|abs|bool|contains|getitem|setitem)__"
)
BUILTINS = set(
    "len range enumerate zip min max sum abs sorted reversed int str bool list tuple dict set isinstance ord repr any"
    " all divmod pow map iter next super property staticmethod classmethod type ValueError TypeError KeyError"
    " IndexError LookupError ZeroDivisionError NotImplemented".split()
)
BARRED_WORDS = set(
    "register mro elements open input law version_info with_traceback add_note typing enum Enum Generic Protocol ABC"
    " namedtuple dataclass overload float frozenset bytearray eval exec globals locals".split()
)
LIBRARY = {"heapq", "math", "itertools", "collections"}


def parsed(path):
    return ast.parse(path.read_text(encoding="ascii"), str(path))


def nodes(kinds):
    return [(path.name, node) for path in FILES for node in ast.walk(parsed(path)) if isinstance(node, kinds)]


def is_generator(function):
    return any(isinstance(node, (ast.Yield, ast.YieldFrom)) for node in ast.walk(function))


def is_property(function):
    return any(isinstance(node, ast.Name) and node.id == "property" for node in function.decorator_list)


class Form(unittest.TestCase):

    def test_files_are_plain(self):
        for path in PACKAGE.rglob("*"):
            if "__pycache__" not in path.parts and path.is_file():
                self.assertRegex(path.name, r"^[a-z0-9_]+\.py$")

    def test_characters_and_sizes(self):
        for path in FILES:
            with self.subTest(path=path.name):
                text = path.read_bytes().decode("ascii")
                self.assertEqual(re.findall(r"[^ -~\n]", text), [])
                self.assertLessEqual(len(text.splitlines()), 399)
                self.assertLessEqual(max(map(len, text.splitlines())), 120)
        for name, function in nodes(ast.FunctionDef):
            self.assertLessEqual(function.end_lineno - function.lineno + 1, 40, f"{name}: {function.name}")

    def test_python_gives_no_warning(self):
        with warnings.catch_warnings():
            warnings.simplefilter("error")
            for path in FILES:
                compile(path.read_text(), str(path), "exec")

    def test_words(self):
        for path in FILES:
            with self.subTest(path=path.name):
                text = path.read_text()
                self.assertEqual(re.findall(r"_wall|_WallAttr|\(type\)|Meta|metaclass=", text), [])
                words = {node.id for node in ast.walk(parsed(path)) if isinstance(node, ast.Name)}
                words |= {node.attr for node in ast.walk(parsed(path)) if isinstance(node, ast.Attribute)}
                self.assertEqual(words & BARRED_WORDS, set())
                self.assertEqual((words & set(dir(builtins))) - BUILTINS, set())

    def test_imports_name_the_file_that_defines_the_name(self):
        for name, node in nodes((ast.Import, ast.ImportFrom)):
            with self.subTest(file=name, line=node.lineno):
                self.assertIsInstance(node, ast.ImportFrom)
                if node.module in LIBRARY:
                    continue
                package, file = node.module.split(".")
                self.assertEqual([package, node.level], ["handsweeps", 0])
                body = parsed(PACKAGE / f"{file}.py").body
                defined = {item.name for item in body if isinstance(item, (ast.ClassDef, ast.FunctionDef))}
                self.assertEqual({item.name for item in node.names} - defined, set())

    def test_imports_do_not_go_in_circles(self):
        left = {path.stem: set() for path in FILES if path.stem != "__init__"}
        for name, node in nodes(ast.ImportFrom):
            if node.module not in LIBRARY:
                left[name[:-3]].add(node.module.split(".")[1])
        while left:
            free = [name for name, needs in left.items() if not needs & set(left)]
            self.assertTrue(free, f"a circle among {sorted(left)}")
            for name in free:
                del left[name]

    def test_methods_and_decorators(self):
        for name, function in nodes(ast.FunctionDef):
            with self.subTest(file=name, function=function.name):
                if function.name.startswith("__"):
                    self.assertRegex(function.name, METHODS)
                for decorator in function.decorator_list:
                    self.assertIn(ast.unparse(decorator).split(".")[-1], BUILTINS | {"setter"})

    def test_no_fractions(self):
        self.assertEqual([name for name, _ in nodes(ast.Div)], [])
        self.assertEqual([node.value for _, node in nodes(ast.Constant) if isinstance(node.value, float)], [])

    def test_a_name_of_a_generator_is_that_of_no_other_function(self):
        functions = [function for _, function in nodes(ast.FunctionDef)]
        names = [function.name for function in functions]
        for function in functions:
            if is_generator(function):
                self.assertEqual(names.count(function.name), 1, function.name)

    def test_a_name_of_a_property_is_that_of_no_method(self):
        properties = {function.name for _, function in nodes(ast.FunctionDef) if is_property(function)}
        others = {function.name for _, function in nodes(ast.FunctionDef) if not is_property(function)}
        self.assertEqual(properties & others, set())

    def test_a_name_of_an_attribute_is_that_of_no_method(self):
        methods = {function.name for _, function in nodes(ast.FunctionDef)}
        attributes = {node.attr for _, node in nodes(ast.Attribute) if isinstance(node.ctx, ast.Store)}
        self.assertEqual(methods & attributes, set())

    def test_names_of_a_file_have_one_meaning(self):
        for path in FILES:
            with self.subTest(path=path.name):
                bound = []
                for item in parsed(path).body:
                    if isinstance(item, ast.ImportFrom):
                        bound += [name.name for name in item.names]
                    elif isinstance(item, (ast.ClassDef, ast.FunctionDef)):
                        bound.append(item.name)
                    elif isinstance(item, ast.Assign):
                        bound += [target.id for target in item.targets]
                self.assertEqual(sorted(bound), sorted(set(bound)))
                local = {node.arg for node in ast.walk(parsed(path)) if isinstance(node, ast.arg)}
                for function in [node for node in ast.walk(parsed(path)) if isinstance(node, ast.FunctionDef)]:
                    for node in ast.walk(function):
                        if isinstance(node, ast.Name) and isinstance(node.ctx, ast.Store):
                            local.add(node.id)
                self.assertEqual(local & (set(bound) | set(dir(builtins))), set())

    def test_shortened_assignments_add_literal_integers_to_local_names(self):
        for name, node in nodes(ast.AugAssign):
            with self.subTest(file=name, line=node.lineno):
                self.assertIsInstance(node.target, ast.Name)
                self.assertIs(type(node.value.value), int)

    def test_tests_of_all_items_take_lists(self):
        for name, call in nodes(ast.Call):
            if ast.unparse(call.func) in ("any", "all", "min", "max", "sum", "sorted"):
                kinds = [argument for argument in call.args if isinstance(argument, ast.GeneratorExp)]
                self.assertEqual(kinds, [], f"{name}, line {call.lineno}")


if __name__ == "__main__":
    unittest.main()

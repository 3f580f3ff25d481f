"""The names and arguments of the interface, each defined in the file under which it is listed."""

import importlib
import inspect
import unittest

from helper import program_r

FUNCTIONS = {
    "sums": {"value": "product numbers", "total": "terms numbers", "plus": "one other", "times": "one other", "put": "terms sums",
             "term_by_term": "one other"},
    "programs": {"rows": "program", "without_rows": "program numbers"},
    "ways": {"ways": "program", "straight": "program way"},
    "runs": {"played": "program starts choices"},
    "fullruns": {"full_run": "program way starts"},
    "flats": {"flat": "program loop", "parts": "names flat", "doubling": "names flat"},
    "looppapers": {"loop_paper": "names flat", "is_loop_paper": "names flat thing"},
    "looptrees": {"is_loop_tree": "names flat name thing", "loop_product": "names flat name tree", "loop_heights": "names flat"},
    "hulls": {"below": "product products", "weights": "product products", "direction": "product products", "lean": "products"},
    "branches": {"branch": "program way name product", "is_branch": "program way name thing", "branch_product": "program way name tree"},
    "abovetrees": {"above": "program way name", "is_above": "program way name thing"},
    "heights": {"height": "program way name", "top": "program name", "heights": "program way", "tops": "program",
                "degree": "program way name"},
    "stairs": {"stairs": "program way", "is_stairs": "program way thing"},
    "shares": {"share": "program way name product"},
    "covers": {"covered": "one other names", "covering": "one other names", "is_covering": "one other names thing", "outrun": "one other names"},
    "steps": {"steps_height": "program way"},
    "cuts": {"cuts": "program name products"},
    "changes": {"loosened": "program", "behind": "one other", "renamed": "program names", "after": "first second"},
    "texts": {"product_text": "product", "sum_text": "terms", "height_text": "height", "program_text": "program"},
    "reading": {"read_program": "text", "read_product": "text"},
    "frontiers": {"frontier": "program starts", "choices_to": "program starts numbers", "greatest": "program starts name"},
}
METHODS = {
    ("programs", "Program"): {"__init__": "self names bodies main", "__eq__": "self other"},
    ("runs", "Run"): {"__init__": "self program starts", "choose": "self number", "chosen": "self", "back": "self", "copy": "self",
                      "trying": "self action"},
    ("desk", "Desk"): {"__init__": "self", "tell": "self line", "undoable": "self", "would": "self line"},
}


class InterfaceTest(unittest.TestCase):
    def test_functions(self):
        for module, functions in FUNCTIONS.items():
            for name, arguments in functions.items():
                found = getattr(importlib.import_module("howhigh." + module), name)
                self.assertEqual(found.__module__, "howhigh." + module)
                self.assertEqual(list(inspect.signature(found).parameters), arguments.split(), name)

    def test_methods(self):
        for (module, name), methods in METHODS.items():
            found = getattr(importlib.import_module("howhigh." + module), name)
            self.assertEqual(found.__module__, "howhigh." + module)
            for method, arguments in methods.items():
                self.assertEqual(list(inspect.signature(vars(found)[method]).parameters), arguments.split(), method)

    def test_attributes(self):
        one = program_r()
        for attribute in ["names", "bodies", "main"]:
            self.assertTrue(hasattr(one, attribute))
        run = importlib.import_module("howhigh.runs").Run(one, {"a": 1, "b": 1, "x": 1})
        for attribute in ["choice", "numbers", "steps"]:
            self.assertTrue(hasattr(run, attribute))


if __name__ == "__main__":
    unittest.main()

"""The interface: each name stands in its file, with its parameters, and each module imports only what is ahead."""

import ast
import importlib
import inspect
import pathlib
import re
import unittest

FOLDER = pathlib.Path(__file__).resolve().parent.parent / "pursesapart"
INTERFACE = {
    "checks": "is_bank(value) need_of(bank)",
    "trust": "Trust()",
    "payments": """has_outer_form(trust,bank,payment) payment_of(trust,bank,payment) past_of(trust,bank,payment)
        has_form(trust,bank,payment) held_ahead(trust,bank,payment) is_right(trust,bank,payment)
        fault_of(trust,bank,payment)""",
    "lots": """is_lot(trust,bank,value) is_right_lot(trust,bank,value) row_of(trust,bank,lot) lasts_of(trust,bank,lot)
        totals(trust,bank,lot) is_sequence(trust,bank,lot,value) purses_along(trust,bank,lot,sequence)
        overdrawing(trust,bank,lot) clash_between(trust,bank,one,other) joined_lots(trust,bank,one,other)
        common_lot(trust,bank,one,other) lot_of(trust,bank,payments) greatest_lots(trust,bank,payments)
        is_cover(trust,bank,lot,purse,amount,value) cover_of(trust,bank,lot,purse,amount)
        content_for(trust,bank,lot,purse,to,amount) most_held(trust,bank,lot,purses)
        least_held(trust,bank,lot,purses) is_held(trust,bank,lot,purses,value)""",
    "votes": """is_vote(trust,bank,name) is_certificate(trust,bank,value) voters_of(trust,bank,certificate)
        certificate_of(trust,bank,payment,votes)""",
    "papers": """paper_of(trust,bank,one,other) wrong_paper(trust,bank,vote) is_paper(trust,bank,value)
        convicted(trust,bank,paper)""",
    "letters": "is_letter(bank,value)",
}
METHODS = {
    ("trust", "Trust"): "name(content) is_name(value) content(name) size() seal(who,name) sealed(who,name)",
}
SEQUENCE = ["errors", "checks", "trust", "facts", "payments", "flows", "greatest", "holdings", "lots", "votes",
            "papers", "letters"]


def signatures(text):
    """The pairs of a name and the list of its parameters."""
    return [(name, inside.split(",") if inside else []) for name, inside in re.findall(r"(\w+)\(([\w,]*)\)", text)]


class Interface(unittest.TestCase):
    def test_functions_and_classes(self):
        for module, text in INTERFACE.items():
            found = importlib.import_module("pursesapart." + module)
            for name, parameters in signatures(text):
                with self.subTest(module=module, name=name):
                    thing = getattr(found, name)
                    self.assertEqual(found.__name__, thing.__module__)
                    self.assertEqual(parameters, list(inspect.signature(thing).parameters))

    def test_methods_stand_in_the_class_itself(self):
        for (module, kind), text in METHODS.items():
            found = getattr(importlib.import_module("pursesapart." + module), kind)
            for name, parameters in signatures(text):
                with self.subTest(kind=kind, name=name):
                    self.assertEqual(["self", *parameters], list(inspect.signature(vars(found)[name]).parameters))

    def test_the_package_itself_defines_nothing(self):
        self.assertEqual([], ast.parse((FOLDER / "__init__.py").read_text()).body)

    def test_each_module_imports_only_those_ahead(self):
        files = [path.stem for path in FOLDER.glob("*.py") if path.stem != "__init__"]
        self.assertEqual(sorted(SEQUENCE), sorted(files))
        for at, module in enumerate(SEQUENCE):
            tree = ast.parse((FOLDER / (module + ".py")).read_text())
            for node in ast.walk(tree):
                if isinstance(node, ast.ImportFrom) and node.module.startswith("pursesapart."):
                    self.assertIn(node.module.split(".")[1], SEQUENCE[:at], module)


if __name__ == "__main__":
    unittest.main()

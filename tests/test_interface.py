"""The interface: each name stands in its file, with its parameters, and each module imports only what is ahead."""

import ast
import importlib
import inspect
import pathlib
import re
import unittest

FOLDER = pathlib.Path(__file__).resolve().parent.parent / "pursesapart"
INTERFACE = {
    "checks": "is_bank(value) need_of(bank)",
    "trust": "Trust()",
    "payments": """has_outer_form(trust,bank,payment) payment_of(trust,bank,payment) past_of(trust,bank,payment)
        has_form(trust,bank,payment) held_ahead(trust,bank,payment) is_right(trust,bank,payment)
        fault_of(trust,bank,payment)""",
    "lots": """is_lot(trust,bank,value) is_right_lot(trust,bank,value) row_of(trust,bank,lot) lasts_of(trust,bank,lot)
        totals(trust,bank,lot) is_sequence(trust,bank,lot,value) purses_along(trust,bank,lot,sequence)
        overdrawing(trust,bank,lot) clash_between(trust,bank,one,other) joined_lots(trust,bank,one,other)
        common_lot(trust,bank,one,other) lot_of(trust,bank,payments) greatest_lots(trust,bank,payments)
        is_cover(trust,bank,lot,purse,amount,value) cover_of(trust,bank,lot,purse,amount)
        content_for(trust,bank,lot,purse,to,amount) most_held(trust,bank,lot,purses)
        least_held(trust,bank,lot,purses) is_held(trust,bank,lot,purses,value)""",
    "votes": """is_vote(trust,bank,name) is_certificate(trust,bank,value) voters_of(trust,bank,certificate)
        certificate_of(trust,bank,payment,votes)""",
    "papers": """paper_of(trust,bank,one,other) wrong_paper(trust,bank,vote) is_paper(trust,bank,value)
        convicted(trust,bank,paper)""",
    "letters": "is_letter(bank,value)",
    "disks": "Disk(cells,fuse)",
    "shelves": """is_shelf(trust,bank,value) taken_in(trust,bank,shelf,certificates) row_of_shelf(trust,bank,shelf)
        shelf_above(trust,bank,shelf,row)""",
    "members": "Member(trust,bank,number,disk)",
    "owners": "may_lack(trust,bank,shelf,end) Owner(trust,bank,purse,disk)",
    "books": """Book(trust,bank) book_of(trust,bank,certificates) certificates(book) joined_books(one,other)
        is_part_of(one,other) common_book(one,other) lacking(book,row) book_of_votes(trust,bank,votes)""",
    "court": """named(trust,bank,votes) clash_papers(trust,bank,one,other) wrong_papers(trust,bank,certificate)
        clash_lots(bank,members) judged(trust,bank,books) sums_told(trust,bank,books)
        most_overdrawn(trust,bank,books) forged(trust,bank,books) owners_named(trust,bank,books)""",
    "runs": "Play(bank,liars,cheats)",
    "plans": """is_plan(trust,bank,liars,value) booked_by(trust,bank,liars,plan) carry_out(trust,bank,liars,plan)""",
    "mostly": """rest_of(trust,bank,liars,plan,payments) lock_of(trust,bank,liars,plan,purse)
        lock_plan(trust,bank,liars,plan,payments) most_beside(bank,many) beside_plan(trust,bank,liars,payments)
        most_paid(trust,bank,liars,payments,owners) paid_out(trust,bank,payments,owners,to)
        drain_plan(trust,bank,liars,purse,to,times)""",
    "sure": """liars_in(trust,bank,known) may_be_booked(trust,bank,known,payments)
        is_may(trust,bank,known,payments,value) surely_booked(trust,bank,known,payment)
        is_sure(trust,bank,known,payment,value)""",
    "folds": """holder_of(trust,bank,lot,part) forgettable(trust,bank,lot) kept_of(trust,bank,lot,part)
        right_above(trust,bank,kept,payment)""",
    "shared": """is_charter(value) signs(charter,proposer,owners) payers(charter) stoppers(charter)
        counting_charter(many,proposers,least) owner_of(bank,purse,owner) signed_by(trust,bank,charter,payment)
        is_signed(trust,bank,charter,payment) is_split(charter,value) signed_heads(charter,split)
        torn_split(charter) deciders(charter)""",
    "sharing": "Sharing(bank,charter,false=(),liars=(),agreed=False) locking_run(bank,charter,false=(),agreed=False)",
    "firsts": """views_in(bank,wishes,weaving) blur(bank,wishes) settles(bank,wishes) most_hands(bank,purse)
        settling_wishes(bank,purse,many)""",
    "drills": "care_rules() Drill(frame,liars,without) drilled(frame,liars,without,run)",
    "care": "few_run(members,lies) run_without(rule)",
    "texts": """web_text(trust,bank,web) read_web(trust,text) steps_text(trust,bank,web,steps)
        read_steps(trust,bank,web,text)""",
    "desk": "Desk(bank)",
}
METHODS = {
    ("trust", "Trust"): "name(content) is_name(value) content(name) size() seal(who,name) sealed(who,name)",
    ("disks", "Disk"): "read(cell) write(cell,value) cells()",
    ("members", "Member"): "shelf() voted() row() hear(letter)",
    ("owners", "Owner"): "shelf() asked() has() pay(to,amount) again() news() look() hear(letter)",
    ("books", "Book"): """take(certificate) booked() waiting() certificate(payment) row() last() purses() copy()
        __eq__(other)""",
    ("runs", "Play"): """pay(purse,to,amount) again(purse) news(purse) look(purse) bring(number) fall(who,writes)
        back(who) lie(who,content) send(letter) count() letter(number) waiting(end) moment() is_gone(who)
        cells_of(who) shelf_of(who) owner_at(purse) member_at(member) ledger() calls()""",
    ("sharing", "Sharing"): "is_act(act) act(act) made() signers() voters() signed() booked() way_on() locked()",
    ("drills", "Drill"): "act(act) is_act(act) payments() votes() certified() book_of(member) wrong()",
    ("desk", "Desk"): "say(line)",
}
SEQUENCE = ["errors", "checks", "trust", "facts", "payments", "flows", "greatest", "holdings", "lots", "votes",
            "papers", "letters", "disks", "shelves", "members", "owners", "books", "court", "runs", "plans", "mostly",
            "sure", "folds", "shared", "sharing", "firsts", "drills", "care", "texts", "desk"]


def signatures(text):
    """The pairs of a name and the list of its parameters, as they are written with their defaults."""
    rows = ast.parse("[" + re.sub(r"\)\s+", "), ", text) + "]").body[0].value.elts
    return [(row.func.id, [ast.unparse(item) for item in row.args + row.keywords]) for row in rows]


def parameters_of(function):
    """The list of the parameters of a function or a class, with their defaults."""
    return [str(parameter).replace(" ", "") for parameter in inspect.signature(function).parameters.values()]


class Interface(unittest.TestCase):
    def test_functions_and_classes(self):
        for module, text in INTERFACE.items():
            found = importlib.import_module("pursesapart." + module)
            for name, parameters in signatures(text):
                with self.subTest(module=module, name=name):
                    thing = getattr(found, name)
                    self.assertEqual(found.__name__, thing.__module__)
                    self.assertEqual(parameters, parameters_of(thing))

    def test_methods_stand_in_the_class_itself(self):
        for (module, kind), text in METHODS.items():
            found = getattr(importlib.import_module("pursesapart." + module), kind)
            for name, parameters in signatures(text):
                with self.subTest(kind=kind, name=name):
                    self.assertEqual(["self", *parameters], parameters_of(vars(found)[name]))

    def test_the_package_itself_defines_nothing(self):
        self.assertEqual([], ast.parse((FOLDER / "__init__.py").read_text()).body)

    def test_each_module_imports_only_those_ahead(self):
        files = [path.stem for path in FOLDER.glob("*.py") if path.stem != "__init__"]
        self.assertEqual(sorted(SEQUENCE), sorted(files))
        for at, module in enumerate(SEQUENCE):
            tree = ast.parse((FOLDER / (module + ".py")).read_text())
            for node in ast.walk(tree):
                if isinstance(node, ast.ImportFrom) and node.module.startswith("pursesapart."):
                    self.assertIn(node.module.split(".")[1], SEQUENCE[:at], module)


if __name__ == "__main__":
    unittest.main()

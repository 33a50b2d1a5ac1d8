"""The interface: each name stands in its file, with its arguments, and each method in its class."""

import importlib
import inspect
import unittest

from sumlives.lattices import Lattice
from sumlives.systems import Factors
from tests.helpers import package_objects

ORDER = ["__le__", "__lt__", "__ge__", "__gt__"]
TOLD = {"__eq__": "(self, other)", "__str__": "(self)"}

# For each module its classes and functions with their arguments, and what is listed for a class.
INTERFACE = {
    "errors": {
        "InvalidText": ("(at)", {}),
        "InvalidRow": ("(part)", {}),
        "InvalidBook": ("(word)", {}),
        "InvalidLife": ("(at)", {}),
        "NoStatement": ("(at)", {}),
        "NoTotal": ("(name)", {}),
        "NoEvent": ("(name)", {}),
        "Refused": ("(word)", {}),
    },
    "lattices": {
        "Lattice": ("(width, rows=())", {
            "rank": None, "reduced": "(self, vector)", "divisor": "(self, form)",
            **dict.fromkeys(["__or__", "__eq__", *ORDER], "(self, other)"),
            "__contains__": "(self, x)", "__str__": "(self)",
        }),
    },
    "systems": {
        "Factors": ("(width, point=None, rows=())", {
            "size": None, "every": "(width)", "solving": "(width, forms, rights)", "read": "(text)",
            **dict.fromkeys(["__and__", "__eq__", *ORDER], "(self, other)"),
            "__contains__": "(self, x)", "__bool__": "(self)", "__str__": "(self)",
        }),
    },
    "rows": {
        "Row": ("()", {}),
        "Test": ("()", {}),
        "Add": ("(factor, what, total, place)", TOLD),
        "Put": ("(note, what)", TOLD),
        "Mark": ("(place)", TOLD),
        "If": ("(test, rows, others=())", TOLD),
        "Was": ("(kind)", TOLD),
        "OldBelow": ("(number)", TOLD),
        "NewBelow": ("(number)", TOLD),
        "Moved": ("()", TOLD),
        "Noted": ("()", TOLD),
        "Not": ("(test)", TOLD),
    },
    "parts": {
        "Event": ("(name, origins, kind, amount=False, group=False)", TOLD),
        "Worth": ("(total, kind, factor, what, least=None, below=None)", TOLD),
        "Handler": ("(event, rows=())", TOLD),
    },
    "books": {
        "Book": ("(rests, passes, totals, notes, worths, events, handlers)", {
            "worth": "(self, total, kind, amount)", "with_factors": "(self, factors)", "barring": "(self, names)",
            "read": "(text)", "__len__": "(self)", "__getitem__": "(self, at)", **TOLD,
        }),
    },
    "lives": {
        "run_life": ("(book, deeds)", {}),
        "Life": (None, {
            "at_rest": None, "sums": "(self, group)", "__eq__": "(self, other)",
            **dict.fromkeys(["kept", "worth", "off"], "(self, total, group)"),
        }),
    },
    "standings": {"standings": ("(book)", {}), "spanned": ("(book, standing)", {})},
    "deciding": {
        **dict.fromkeys(["right_factors", "is_right", "wrong_life"], ("(book)", {})),
        "divisor": ("(book, total)", {}),
    },
    "mending": {
        **dict.fromkeys(["least_mends", "least_enough", "blamed", "idle"], ("(book)", {})),
        "mended": ("(book, numbers)", {}),
    },
    "alike": dict.fromkeys(["alike", "always_alike", "parting"], ("(p, q)", {})),
    "papers": {
        **dict.fromkeys(["paper", "weights"], ("(book)", {})),
        **dict.fromkeys(["paper_holds", "weights_hold"], ("(book, value)", {})),
    },
    "store": {
        "Store": ("(book)", {
            "do": "(self, key, event, amount=None, group=None)", "several": "(self, deeds)", "within": "(self, work)",
            **dict.fromkeys(["kept", "anew", "off"], "(self, total, group)"),
            **dict.fromkeys(["recount", "undo", "trial", "__len__"], "(self)"),
            "names": None, "at_rest": None, "__getitem__": "(self, at)", "__contains__": "(self, x)",
        }),
    },
    "desk": {"Desk": ("()", {"say": "(self, command)", "__len__": "(self)"})},
}

ATTRIBUTES = {
    "Lattice": "width basis", "Factors": "width point basis", "Add": "factor what total place", "Put": "note what",
    "Mark": "place", "If": "test rows others", "Was": "kind", "Moved": "", "Not": "test",
    "Event": "name origins kind amount group", "Worth": "total kind factor what least below", "Handler": "event rows",
    "Book": "rests passes totals notes worths events handlers cuts factors",
    "Life": "kind amount group notes noted groups", "Store": "", "Desk": "",
}


class Interface(unittest.TestCase):
    def test_each_name_is_defined_in_its_file(self):
        for module, names in INTERFACE.items():
            found = importlib.import_module("sumlives." + module)
            for name in names:
                with self.subTest(module=module, name=name):
                    self.assertEqual(getattr(found, name).__module__, "sumlives." + module)

    def test_arguments(self):
        for module, names in INTERFACE.items():
            found = importlib.import_module("sumlives." + module)
            for name, (arguments, _) in names.items():
                with self.subTest(module=module, name=name):
                    # None tells that only the package itself makes objects of this class.
                    if arguments is not None:
                        self.assertEqual(str(inspect.signature(getattr(found, name))), arguments)

    def test_methods_stand_in_their_class(self):
        for module, names in INTERFACE.items():
            found = importlib.import_module("sumlives." + module)
            for name, (_, listed) in names.items():
                for method, arguments in listed.items():
                    with self.subTest(name=name, method=method):
                        self.assertIn(method, vars(getattr(found, name)))
                        value = getattr(getattr(found, name), method)
                        if arguments is None:
                            self.assertIsInstance(value, property)
                        else:
                            self.assertEqual(str(inspect.signature(value)), arguments)

    def test_attributes_are_set_when_an_object_is_made(self):
        self.assertEqual(vars(Lattice(2)), {"width": 2, "basis": ()})
        self.assertEqual(vars(Factors(2)), {"width": 2, "point": None, "basis": ()})
        for made in package_objects():
            for name in ATTRIBUTES[type(made).__name__].split():
                with self.subTest(made=type(made), name=name):
                    self.assertIn(name, vars(made))

    def test_the_package_itself_is_empty(self):
        import sumlives

        with open(sumlives.__file__, encoding="ascii") as file:
            self.assertEqual(file.read().strip().strip('"'), sumlives.__doc__)


if __name__ == "__main__":
    unittest.main()

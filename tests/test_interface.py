"""The interface: each name stands in its file, with its arguments, and each method in its class."""

import importlib
import inspect
import unittest

ORDER = ["__le__", "__lt__", "__ge__", "__gt__"]

# For each module its classes and functions with their arguments, and what is listed for a class.
INTERFACE = {
    "errors": {
        "InvalidText": ("(at)", {}),
        "InvalidRow": ("(part)", {}),
        "InvalidBook": ("(word)", {}),
        "InvalidLife": ("(at)", {}),
        "NoStatement": ("(at)", {}),
        "NoTotal": ("(name)", {}),
        "NoEvent": ("(name)", {}),
        "Refused": ("(word)", {}),
    },
    "lattices": {
        "Lattice": ("(width, rows=())", {
            "rank": None, "reduced": "(self, vector)", "divisor": "(self, form)",
            **dict.fromkeys(["__or__", "__eq__", *ORDER], "(self, other)"),
            "__contains__": "(self, x)", "__str__": "(self)",
        }),
    },
    "systems": {
        "Factors": ("(width, point=None, rows=())", {
            "size": None, "every": "(width)", "solving": "(width, forms, rights)", "read": "(text)",
            **dict.fromkeys(["__and__", "__eq__", *ORDER], "(self, other)"),
            "__contains__": "(self, x)", "__bool__": "(self)", "__str__": "(self)",
        }),
    },
}


class Interface(unittest.TestCase):
    def test_each_name_is_defined_in_its_file(self):
        for module, names in INTERFACE.items():
            found = importlib.import_module("sumlives." + module)
            for name in names:
                with self.subTest(module=module, name=name):
                    self.assertEqual(getattr(found, name).__module__, "sumlives." + module)

    def test_arguments(self):
        for module, names in INTERFACE.items():
            found = importlib.import_module("sumlives." + module)
            for name, (arguments, _) in names.items():
                with self.subTest(module=module, name=name):
                    self.assertEqual(str(inspect.signature(getattr(found, name))), arguments)

    def test_methods_stand_in_their_class(self):
        for module, names in INTERFACE.items():
            found = importlib.import_module("sumlives." + module)
            for name, (_, listed) in names.items():
                for method, arguments in listed.items():
                    with self.subTest(name=name, method=method):
                        self.assertIn(method, vars(getattr(found, name)))
                        value = getattr(getattr(found, name), method)
                        if arguments is None:
                            self.assertIsInstance(value, property)
                        else:
                            self.assertEqual(str(inspect.signature(value)), arguments)

    def test_attributes_are_set_when_an_object_is_made(self):
        from sumlives.lattices import Lattice
        from sumlives.systems import Factors

        self.assertEqual(vars(Lattice(2)), {"width": 2, "basis": ()})
        self.assertEqual(vars(Factors(2)), {"width": 2, "point": None, "basis": ()})

    def test_the_package_itself_is_empty(self):
        import sumlives

        with open(sumlives.__file__, encoding="ascii") as file:
            self.assertEqual(file.read().strip().strip('"'), sumlives.__doc__)


if __name__ == "__main__":
    unittest.main()

import importlib
import inspect
import unittest

# The functions of each module with their parameters.
FUNCTIONS = {
    "folds": {
        "is_joint": ["value"],
        "fold_pair": ["shape", "a", "b"],
        "unfold_pair": ["shape", "a", "b"],
        "folded": ["values", "joints"],
        "unfolded": ["values", "joints"],
    },
    "levels": {
        "split_levels": ["values", "levels"],
        "join_levels": ["numbers", "levels"],
        "coarse_count": ["length", "levels"],
        "quantized": ["value", "step"],
    },
    "tables": {
        "is_tables": ["value"],
        "parameter": ["table"],
        "write_numbers": ["numbers", "coarse", "tables"],
        "read_numbers": ["bits", "length", "coarse", "tables"],
        "mark_of": ["numbers"],
    },
}

# The classes of each module with the parameters of their constructors.
CLASSES = {
    "errors": {
        "InvalidNumber": ["value"],
        "InvalidJoint": ["value"],
        "InvalidSound": ["index"],
        "InvalidTables": ["value"],
        "InvalidPlan": ["index"],
        "InvalidStream": ["index"],
        "InvalidCommand": ["value"],
        "ParseError": ["line"],
        "ScriptError": ["line"],
        "InvalidPlace": ["value"],
        "UnknownName": ["name"],
        "LimitExceeded": ["limit"],
        "NothingToUndo": ["count"],
    },
}


class InterfaceTest(unittest.TestCase):

    def check(self, listed, is_kind):
        for module_name, names in listed.items():
            module = importlib.import_module(f"framejoins.{module_name}")
            for name, parameters in names.items():
                found = getattr(module, name)
                self.assertTrue(is_kind(found), name)
                self.assertEqual(found.__module__, module.__name__, name)
                self.assertEqual(found.__name__, name)
                signature = inspect.signature(found)
                self.assertEqual(list(signature.parameters), parameters, name)
                for parameter in signature.parameters.values():
                    self.assertEqual(parameter.kind, parameter.POSITIONAL_OR_KEYWORD, name)
                    self.assertIs(parameter.default, parameter.empty, name)

    def test_functions(self):
        self.check(FUNCTIONS, inspect.isfunction)

    def test_classes(self):
        self.check(CLASSES, inspect.isclass)


if __name__ == "__main__":
    unittest.main()

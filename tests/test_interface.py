import importlib
import inspect
import unittest

# The functions of each module with their parameters; those after "*" pass by name only, with their default value.
FUNCTIONS = {
    "folds": {
        "is_joint": ["value"],
        "fold_pair": ["shape", "a", "b"],
        "unfold_pair": ["shape", "a", "b"],
        "folded": ["values", "joints"],
        "unfolded": ["values", "joints"],
    },
    "levels": {
        "split_levels": ["values", "levels"],
        "join_levels": ["numbers", "levels"],
        "coarse_count": ["length", "levels"],
        "quantized": ["value", "step"],
    },
    "tables": {
        "is_tables": ["value"],
        "parameter": ["table"],
        "write_numbers": ["numbers", "coarse", "tables"],
        "read_numbers": ["bits", "length", "coarse", "tables"],
        "mark_of": ["numbers"],
    },
    "streams": {
        "is_record": ["value"],
        "record_size": ["record"],
    },
    "encoder": {
        "encode": ["sound", "plan", "*", ("states", 0)],
        "even_plan": ["length", "block", "joint", "levels", "step"],
        "smallest": ["sound", "plans"],
    },
    "seeking": {
        "index_of": ["stream"],
        "needed_records": ["index", "start", "end"],
        "read_part": ["index", "fetch", "start", "end"],
    },
    "damage": {
        "unread_frames": ["index", "lost"],
        "touched": ["index", "lost"],
        "concealed": ["index", "fetch", "lost"],
        "salvaged": ["index", "records"],
    },
    "scripts": {
        "parse_script": ["text"],
        "script_text": ["statements"],
        "clip_of": ["text", "lengths"],
    },
    "edits": {
        "joined": ["first", "second"],
        "repeated": ["stream", "n"],
        "stretch": ["stream", "start", "end"],
    },
    "papers": {
        "check_edit": ["streams", "clip", "records", "rows"],
    },
    "budgets": {
        "least_delay": ["sizes", "rate"],
        "frame_sizes": ["stream"],
        "edit_delay": ["edit", "rate"],
        "padding": ["sizes", "rate", "delay", "store"],
    },
    "files": {
        "stream_text": ["stream"],
        "recovered_records": ["text"],
        "parse_stream": ["text"],
    },
}

# The classes of each module with the parameters of their constructors.
CLASSES = {
    "errors": {
        "InvalidNumber": ["value"],
        "InvalidJoint": ["value"],
        "InvalidSound": ["index"],
        "InvalidTables": ["value"],
        "InvalidPlan": ["index"],
        "InvalidStream": ["index"],
        "InvalidCommand": ["value"],
        "ParseError": ["line"],
        "ScriptError": ["line"],
        "InvalidPlace": ["value"],
        "UnknownName": ["name"],
        "LimitExceeded": ["limit"],
        "NothingToUndo": ["count"],
    },
    "streams": {
        "Stream": ["records"],
    },
    "edits": {
        "Edit": ["streams", "clip"],
    },
    "studio": {
        "Studio": [],
    },
    "console": {
        "Console": ["studio"],
    },
}

# The methods of each class with their parameters behind the object, its static methods, and its properties.
METHODS = {
    ("streams", "Stream"): {
        "sound": [],
        "block": ["frame"],
        "numbers": ["frame"],
        "contents": ["frame"],
        "tables_before": ["frame"],
        "tables_after": ["frame"],
        "size": [],
        "__eq__": ["other"],
        "__len__": [],
        "__repr__": [],
    },
    ("clips", "Clip"): {
        "names": [],
        "pieces": [],
        "cut": ["start", "end"],
        "gained": ["top", "bottom"],
        "sample": ["place", "sounds"],
        "__add__": ["other"],
        "__mul__": ["other"],
        "__eq__": ["other"],
    },
    ("edits", "Edit"): {
        "record": ["index"],
        "sample": ["place"],
        "row": ["index"],
        "kept": [],
        "renewed": [],
        "all_records": [],
        "all_rows": [],
        "stream": [],
    },
    ("studio", "Studio"): {
        "put": ["name", "stream"],
        "drop": ["name"],
        "edit": ["name", "script"],
        "stream": ["name"],
        "names": [],
        "undo": [("count", 1)],
        "redo": [("count", 1)],
        "history": [],
        "perform": ["calls"],
        "clone": [],
        "__eq__": ["other"],
        "__len__": [],
    },
    ("console", "Console"): {
        "execute": ["command"],
        "__len__": [],
    },
}
STATIC_METHODS = {
    ("clips", "Clip"): {
        "part": ["name", "start", "end"],
        "silence": ["count"],
        "samples": ["sound"],
    },
}
PROPERTIES = {
    ("streams", "Stream"): ["records", "length", "frames"],
    ("clips", "Clip"): ["length"],
    ("edits", "Edit"): ["length", "total"],
}


def listed_parameters(parameters):
    """The parameters as the tables above list them."""
    listed = []
    for parameter in parameters:
        if parameter.kind == parameter.KEYWORD_ONLY and "*" not in listed:
            listed.append("*")
        elif parameter.kind not in (parameter.KEYWORD_ONLY, parameter.POSITIONAL_OR_KEYWORD):
            listed.append(str(parameter.kind))
        plain = parameter.default is parameter.empty
        listed.append(parameter.name if plain else (parameter.name, parameter.default))
    return listed


class InterfaceTest(unittest.TestCase):

    def check(self, listed, is_kind):
        for module_name, names in listed.items():
            module = importlib.import_module(f"framejoins.{module_name}")
            for name, parameters in names.items():
                found = getattr(module, name)
                self.assertTrue(is_kind(found), name)
                self.assertEqual(found.__module__, module.__name__, name)
                self.assertEqual(found.__name__, name)
                signature = inspect.signature(found)
                self.assertEqual(listed_parameters(signature.parameters.values()), parameters, name)

    def test_functions(self):
        self.check(FUNCTIONS, inspect.isfunction)

    def test_classes(self):
        self.check(CLASSES, inspect.isclass)

    def test_methods(self):
        for (module_name, class_name), methods in METHODS.items():
            body = vars(getattr(importlib.import_module(f"framejoins.{module_name}"), class_name))
            for name, parameters in methods.items():
                self.assertTrue(inspect.isfunction(body[name]), name)
                signature = inspect.signature(body[name])
                self.assertEqual(listed_parameters(signature.parameters.values())[1:], parameters, name)

    def test_static_methods(self):
        for (module_name, class_name), methods in STATIC_METHODS.items():
            body = vars(getattr(importlib.import_module(f"framejoins.{module_name}"), class_name))
            for name, parameters in methods.items():
                self.assertIsInstance(body[name], staticmethod, name)
                signature = inspect.signature(body[name].__func__)
                self.assertEqual(listed_parameters(signature.parameters.values()), parameters, name)

    def test_properties(self):
        for (module_name, class_name), names in PROPERTIES.items():
            body = vars(getattr(importlib.import_module(f"framejoins.{module_name}"), class_name))
            for name in names:
                self.assertIsInstance(body[name], property, name)
                self.assertIsNone(body[name].fset, name)
                self.assertIsNone(body[name].fdel, name)


if __name__ == "__main__":
    unittest.main()

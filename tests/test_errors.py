import unittest

from silentslips import errors

FIELDS = {
    "BadCount": (ValueError, ["count"]),
    "BadBook": (ValueError, ["what", "worth"]),
    "Ambiguous": (ValueError, ["form", "row"]),
    "Unwritable": (ValueError, ["kind"]),
    "Unused": (ValueError, ["kind"]),
    "BadRule": (ValueError, ["worth"]),
    "NoPlace": (ValueError, ["place"]),
    "NoCase": (ValueError, ["rule", "spots"]),
    "Uneven": (ValueError, ["token"]),
    "Unwritten": (ValueError, ["path"]),
    "Clash": (ValueError, ["kind"]),
    "Unknown": (LookupError, ["name"]),
    "TooFew": (LookupError, ["count"]),
    "NothingToUndo": (LookupError, []),
    "Refused": (RuntimeError, ["at", "line", "awaited"]),
    "TooDeep": (RuntimeError, ["at"]),
}
VALUES = [0, -1, 10 ** 29, True, None, "", "a b", "{x}", (), ("a", ("b", 3)), [1, [2]], (1, [2])]


def deep(levels):
    value = "x"
    for level in range(levels):
        value = [value] if level % 2 else (value,)
    return value


class Fields(unittest.TestCase):
    def test_kept_by_position_and_by_name(self):
        for name, (_, fields) in FIELDS.items():
            maker = getattr(errors, name)
            for at in range(len(VALUES)):
                values = [VALUES[(at + step) % len(VALUES)] for step in range(len(fields))]
                for error in (maker(*values), maker(**dict(zip(fields, values)))):
                    with self.subTest(name=name, values=values):
                        self.assertEqual([getattr(error, field) for field in fields], values)
                        kinds = [type(getattr(error, field)) for field in fields]
                        self.assertEqual(kinds, [type(value) for value in values])
                        self.assertIsInstance(str(error), str)

    def test_deep_values(self):
        self.assertEqual(errors.NoCase("out a", deep(160)).spots, deep(160))

    def test_position_and_name_together(self):
        error = errors.Refused(3, awaited=("x", ""), line=None)
        self.assertEqual((error.at, error.line, error.awaited), (3, None, ("x", "")))

    def test_later_changes_have_no_effect(self):
        row = ["a", ["b"]]
        error = errors.Ambiguous("f", (row, "c"))
        row.append("d")
        row[1].append("e")
        self.assertEqual(error.row, (["a", ["b"]], "c"))

    def test_number_of_fields(self):
        for name, (_, fields) in FIELDS.items():
            maker = getattr(errors, name)
            for many in (len(fields) - 1, len(fields) + 1):
                if many >= 0:
                    with self.subTest(name=name, many=many), self.assertRaises(TypeError):
                        maker(*["a"] * many)


class Bases(unittest.TestCase):
    def test_directly_under_its_base(self):
        self.assertEqual(errors.SlipError.__bases__, (ValueError,))
        for name, (base, _) in FIELDS.items():
            direct = errors.SlipError if base is ValueError else base
            with self.subTest(name=name):
                self.assertEqual(getattr(errors, name).__bases__, (direct,))

    def test_caught_by_its_bases_and_by_no_other_class(self):
        own = {name: getattr(errors, name) for name in [*FIELDS, "SlipError"]}
        for name, (base, fields) in FIELDS.items():
            caught_by = {name, "SlipError"} if base is ValueError else {name}
            error = own[name](*["a"] * len(fields))
            with self.subTest(name=name):
                self.assertEqual({other for other in own if isinstance(error, own[other])}, caught_by)
                with self.assertRaises(base):
                    raise error

    def test_all_errors_are_there(self):
        found = {name for name, thing in vars(errors).items() if isinstance(thing, type)}
        self.assertEqual(found, {*FIELDS, "SlipError"})


if __name__ == "__main__":
    unittest.main()

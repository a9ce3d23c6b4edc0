import unittest

from halfsearch import errors

BASES = {
    "InvalidTree": (ValueError, None),
    "NothingToUndo": (LookupError, None),
    "InvalidValues": (ValueError, "node"),
    "InvalidLabels": (ValueError, "node"),
    "InvalidBlocks": (ValueError, None),
    "UnknownNode": (LookupError, "node"),
    "UnknownRule": (ValueError, "name"),
    "UnknownSide": (ValueError, "name"),
    "TooMany": (ValueError, "count"),
    "InvalidText": (ValueError, "line"),
}


class ErrorsTest(unittest.TestCase):
    def test_each_class_stands_in_the_file_with_its_base(self):
        for name, (base, _) in BASES.items():
            with self.subTest(name=name):
                kind = getattr(errors, name)
                self.assertEqual((kind.__module__, kind.__bases__), ("halfsearch.errors", (base,)))

    def test_there_are_no_other_classes(self):
        self.assertEqual({name for name in vars(errors) if isinstance(getattr(errors, name), type)}, set(BASES))

    def test_fields_keep_what_is_passed(self):
        for name, (_, field) in BASES.items():
            for told in (None, 0, 7, "x", [1], object(), 10 ** 5000):
                if field is not None:
                    with self.subTest(name=name):
                        error = getattr(errors, name)(told)
                        self.assertIs(getattr(error, field), told)
                        self.assertEqual(vars(error), {field: told})
                        self.assertIsInstance(str(error), str)

    def test_classes_without_fields(self):
        for name in ("InvalidTree", "NothingToUndo", "InvalidBlocks"):
            self.assertEqual(vars(getattr(errors, name)("why")), {})

    def test_none_is_a_subclass_of_another(self):
        kinds = [getattr(errors, name) for name in BASES]
        for kind in kinds:
            self.assertEqual([other for other in kinds if issubclass(kind, other)], [kind])


if __name__ == "__main__":
    unittest.main()

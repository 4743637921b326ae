import copy
import inspect
import pickle
import unittest

from standby import errors

# Class, the one of Python's own straight above it, its field, what it may be made with.
INTERFACE = [
    ("Unlike", ValueError, None, [None]),
    ("Alike", ValueError, "name", ["a", "abcdef"]),
    ("BadText", ValueError, "at", [0, 7, 199]),
    ("BadRow", ValueError, "row", [0, 1, 59]),
    ("BadDeed", ValueError, "at", [0, 1, 11]),
    ("NoName", LookupError, "name", ["a", "abcdef", "", "A b", "\n", "{x}", "a" * 500]),
    ("NoPlace", LookupError, "place", [-1, 25, 10 ** 30, 10 ** 5000]),
    ("NoNumber", LookupError, "number", [-1, 0, 10 ** 40, -(10 ** 5000)]),
    ("NoDeed", LookupError, "many", [-1, 81, 10 ** 30, 10 ** 5000]),
    ("Never", RuntimeError, "ring", [["a", "b"], ["c", "a", "b"]]),
    ("Known", RuntimeError, "name", ["a", "abcdef"]),
    ("Last", RuntimeError, None, [None]),
]


class Errors(unittest.TestCase):
    def made(self):
        """Each class, its field, what it was made with, and what was so made."""
        for name, _, field, values in INTERFACE:
            kind = getattr(errors, name)
            for value in values:
                yield kind, field, value, kind() if field is None else kind(value)

    def test_twelve_classes_each_straight_under_its_own(self):
        self.assertEqual(len(INTERFACE), 12)
        for name, above, _, _ in INTERFACE:
            with self.subTest(name):
                kind = getattr(errors, name)
                self.assertTrue(inspect.isclass(kind))
                self.assertEqual(kind.__bases__, (above,))
                self.assertEqual(kind.__name__, name)
                self.assertEqual(kind.__module__, "standby.errors")

    def test_under_no_other_of_them(self):
        for name, _, _, _ in INTERFACE:
            for other, _, _, _ in INTERFACE:
                if name != other:
                    self.assertFalse(issubclass(getattr(errors, name), getattr(errors, other)), (name, other))

    def test_fields_by_place(self):
        for kind, field, value, error in self.made():
            if field is not None:
                with self.subTest(kind.__name__):
                    self.assertEqual(vars(error), {field: value})
                    self.assertIs(type(getattr(error, field)), type(value))

    def test_fields_by_name(self):
        for kind, field, value, _ in self.made():
            if field is not None:
                with self.subTest(kind.__name__):
                    self.assertEqual(getattr(kind(**{field: value}), field), value)

    def test_made_with_just_its_fields(self):
        for name, _, field, values in INTERFACE:
            with self.subTest(name):
                kind = getattr(errors, name)
                if field is not None:
                    self.assertEqual(list(inspect.signature(kind).parameters), [field])
                    self.assertRaises(TypeError, kind)
                    self.assertRaises(TypeError, kind, values[0], values[0])

    def test_raised_and_caught(self):
        for kind, field, value, error in self.made():
            with self.subTest(kind.__name__):
                with self.assertRaises(kind) as caught:
                    raise error
                self.assertIs(type(caught.exception), kind)
                if field is not None:
                    self.assertEqual(getattr(caught.exception, field), value)

    def test_can_be_written_and_copied(self):
        for kind, field, value, error in self.made():
            with self.subTest(kind.__name__):
                self.assertIsInstance(str(error), str)
                for again in (copy.copy(error), copy.deepcopy(error), pickle.loads(pickle.dumps(error))):
                    self.assertIs(type(again), kind)
                    self.assertEqual(vars(again), vars(error))

    def test_two_are_made_apart(self):
        one, other = errors.NoName("a"), errors.NoName("b")
        self.assertEqual((one.name, other.name), ("a", "b"))

    def test_ring_is_the_errors_own_list(self):
        ring = ["a", "b", "c"]
        error = errors.Never(ring)
        told = str(error)
        ring.append("d")
        self.assertEqual(error.ring, ["a", "b", "c"])
        self.assertEqual(str(error), told)
        error.ring.clear()
        self.assertEqual(ring, ["a", "b", "c", "d"])
        self.assertEqual(errors.Never(ring).ring, ["a", "b", "c", "d"])

    def test_ring_may_be_handed_in_as_a_tuple(self):
        self.assertEqual(errors.Never(("b", "a")).ring, ["b", "a"])
        self.assertEqual(errors.Never(ring=("b", "a")).ring, ["b", "a"])


if __name__ == "__main__":
    unittest.main()

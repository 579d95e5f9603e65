"""[52], [5]: the errors and their fields."""

import unittest

from rerunrein import errors

FIELDS = {
    "BadText": ("position",),
    "Fault": ("reason",),
    "BadProgram": ("line", "reason"),
    "UnknownProcess": ("name",),
    "BadInputs": ("index",),
    "NotReady": ("name",),
    "BadSender": ("sender",),
    "BadRecord": ("reason", "name", "number"),
    "BadEvent": ("event",),
    "BadRecordLine": ("line",),
    "BadLine": ("line",),
    "BadWait": ("index",),
    "NotLive": ("ring",),
    "TooMany": ("most",),
    "BadCut": ("cut",),
    "BadConditions": ("line", "reason"),
    "Missing": ("what",),
}

# Pairs of what is passed and what the field holds then.
CASES = (
    (0, 0),
    (-10 ** 30, -10 ** 30),
    (True, True),
    ("line", "line"),
    ("", ""),
    (None, None),
    ((), ()),
    ([], ()),
    ([1, 2], (1, 2)),
    ((1, [2, "x"], None), (1, (2, "x"), None)),
    ([[("a", 1), ["b", [2]]], ([],)], ((("a", 1), ("b", (2,))), ((),))),
    ([[[[[[]]]]]], ((((((),),),),),)),
)


def kinds_inside(thing):
    """The kinds of all objects within the thing, lists and tuples included."""
    found = [type(thing)]
    if isinstance(thing, (list, tuple)):
        for item in thing:
            found.extend(kinds_inside(item))
    return found


def made(kind, /, *passed, **named):
    return getattr(errors, kind)(*passed, **named)


class ErrorsTest(unittest.TestCase):

    def test_all_classes_are_direct_subclasses(self):
        self.assertEqual(errors.RerunError.__bases__, (ValueError,))
        for name in FIELDS:
            with self.subTest(name):
                self.assertEqual(getattr(errors, name).__bases__, (errors.RerunError,))
                self.assertEqual(getattr(errors, name).__module__, "rerunrein.errors")

    def test_there_are_no_other_errors(self):
        found = {
            name for name, thing in vars(errors).items()
            if isinstance(thing, type) and issubclass(thing, BaseException)
        }
        self.assertEqual(found, set(FIELDS) | {"RerunError"})

    def test_fields_by_position_and_by_name(self):
        for name, fields in FIELDS.items():
            passed = [f"value of {field}" for field in fields]
            named = dict(zip(fields, passed))
            backwards = dict(reversed(list(named.items())))
            for error in (made(name, *passed), made(name, **named), made(name, **backwards)):
                with self.subTest(name):
                    for field in fields:
                        self.assertEqual(getattr(error, field), f"value of {field}")

    def test_wrong_numbers_of_arguments(self):
        for name, fields in FIELDS.items():
            with self.subTest(name):
                with self.assertRaises(TypeError):
                    made(name)
                with self.assertRaises(TypeError):
                    made(name, *range(len(fields) + 1))
                with self.assertRaises(TypeError):
                    made(name, *range(len(fields) - 1), other=1)

    def test_lists_become_tuples_also_inside(self):
        for name, fields in FIELDS.items():
            for passed, held in CASES:
                error = made(name, *[passed for field in fields])
                for field in fields:
                    with self.subTest(name, passed=passed):
                        self.assertEqual(getattr(error, field), held)
                        self.assertEqual(kinds_inside(getattr(error, field)), kinds_inside(held))

    def test_what_was_passed_stays_and_may_change_later(self):
        for name, fields in FIELDS.items():
            with self.subTest(name):
                inner = [1, 2]
                outer = [inner, (inner, "x")]
                error = made(name, *[outer for field in fields])
                self.assertEqual(outer, [[1, 2], ([1, 2], "x")])
                shown = (str(error), repr(error))
                inner.append(3)
                outer.clear()
                for field in fields:
                    self.assertEqual(getattr(error, field), ((1, 2), ((1, 2), "x")))
                self.assertEqual((str(error), repr(error)), shown)

    def test_several_errors_alive_at_once(self):
        alive = []
        for number in range(3):
            for name, fields in FIELDS.items():
                passed = [(name, field, number) for field in fields]
                alive.append((made(name, *passed), fields, passed))
        for error, fields, passed in alive:
            self.assertEqual([getattr(error, field) for field in fields], passed)

    def test_raised_and_caught(self):
        for name, fields in FIELDS.items():
            for kind in (getattr(errors, name), errors.RerunError, ValueError):
                with self.subTest(name, kind=kind):
                    with self.assertRaises(kind) as caught:
                        raise made(name, *fields)
                    self.assertEqual(getattr(caught.exception, fields[-1]), fields[-1])

    def test_messages_name_the_fields(self):
        for name, fields in FIELDS.items():
            passed = [f"value of {field}" for field in fields]
            for error in (made(name, *passed), made(name, **dict(zip(fields, passed)))):
                for word in passed:
                    with self.subTest(name):
                        self.assertIn(word, str(error))

    def test_the_common_class_can_be_made(self):
        self.assertEqual(str(errors.RerunError("text")), "text")
        self.assertEqual(str(errors.RerunError()), "")

    def test_very_deep_and_very_large_objects(self):
        deep = []
        for level in range(20000):
            deep = [deep, level]
        held = errors.BadEvent(deep).event
        for level in reversed(range(20000)):
            self.assertIs(type(held), tuple)
            held, number = held
            self.assertEqual(number, level)
        self.assertEqual(held, ())
        self.assertEqual(errors.BadCut([10 ** 5000]).cut, (10 ** 5000,))


if __name__ == "__main__":
    unittest.main()

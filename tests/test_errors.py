"""Point 2: the classes of refusals."""

import copy
import pickle
import unittest

from pagelodge import errors
from pagelodge.errors import PageError

FIELDS = {
    "NoSpan": ["at"],
    "NoRule": ["at"],
    "NoWish": ["at"],
    "NoPage": ["why"],
    "NoAsk": ["why"],
    "NoHall": ["why"],
    "NoDeed": ["why"],
    "NoText": ["text"],
    "NoLine": ["at", "why"],
}
WORTHS = {"at": (0, 3), "why": "form", "text": "page  a"}


def made(name):
    return getattr(errors, name)(*[WORTHS[field] for field in FIELDS[name]])


class Refusals(unittest.TestCase):
    def test_each_bears_just_its_fields_in_order(self):
        for name, fields in FIELDS.items():
            with self.subTest(name):
                self.assertEqual(list(vars(made(name)).items()), [(field, WORTHS[field]) for field in fields])

    def test_each_takes_its_fields_by_name(self):
        for name, fields in FIELDS.items():
            with self.subTest(name):
                refusal = getattr(errors, name)(**{field: WORTHS[field] for field in fields})
                self.assertEqual(vars(refusal), {field: WORTHS[field] for field in fields})

    def test_each_needs_all_its_fields_and_no_more(self):
        for name, fields in FIELDS.items():
            with self.subTest(name):
                self.assertRaises(TypeError, getattr(errors, name), *fields[1:])
                self.assertRaises(TypeError, getattr(errors, name), *fields, "more")

    def test_each_stands_straight_under_page_error(self):
        self.assertEqual(PageError.__bases__, (ValueError,))
        for name in FIELDS:
            with self.subTest(name):
                self.assertEqual(getattr(errors, name).__bases__, (PageError,))

    def test_none_is_taken_for_another(self):
        for name in FIELDS:
            for other in FIELDS:
                with self.subTest(name, other=other):
                    self.assertEqual(isinstance(made(name), getattr(errors, other)), name == other)

    def test_page_error_takes_each_with_its_fields(self):
        for name, fields in FIELDS.items():
            with self.subTest(name):
                with self.assertRaises(PageError) as caught:
                    raise made(name)
                for field in fields:
                    self.assertEqual(getattr(caught.exception, field), WORTHS[field])

    def test_value_error_takes_each(self):
        for name in FIELDS:
            with self.subTest(name), self.assertRaises(ValueError):
                raise made(name)

    def test_each_is_copied_with_its_fields(self):
        for name in FIELDS:
            refusal = made(name)
            for again in (copy.deepcopy(refusal), pickle.loads(pickle.dumps(refusal))):
                with self.subTest(name):
                    self.assertEqual(vars(again), vars(refusal))

    def test_no_other_classes(self):
        classes = {name for name, thing in vars(errors).items() if isinstance(thing, type)}
        self.assertEqual(classes, {"PageError", *FIELDS})


if __name__ == "__main__":
    unittest.main()

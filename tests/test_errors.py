"""carrylog.errors: the classes, their attributes and their place in the tree."""

import unittest

from carrylog import errors

WITH_ATTRIBUTE = {
    "InvalidInput": "field", "KeyLimit": "most", "ReaderLimit": "most", "UnknownKey": "key",
    "UnknownReader": "reader", "BadChoice": "choice", "Stalled": "deeds", "NoPlace": "length",
    "PowerCut": "landed", "BadImage": "cell", "BadRule": "line", "NotSafe": "certificate",
}
WITHOUT = ["PoweredOff", "NothingToUndo", "NothingToRedo"]


class TestErrors(unittest.TestCase):
    def test_each_stands_directly_under_store_error(self):
        self.assertEqual(errors.StoreError.__bases__, (ValueError,))
        for name in [*WITH_ATTRIBUTE, *WITHOUT]:
            with self.subTest(name=name):
                self.assertEqual(getattr(errors, name).__bases__, (errors.StoreError,))
                self.assertEqual(getattr(errors, name).__module__, "carrylog.errors")

    def test_each_keeps_its_attribute(self):
        for name, attribute in WITH_ATTRIBUTE.items():
            for value in [7, -1, 0, "a", ("short", 3)]:
                with self.subTest(name=name, value=value):
                    error = getattr(errors, name)(value)
                    self.assertEqual(vars(error), {attribute: value})

    def test_the_parameter_has_the_name_of_the_attribute(self):
        for name, attribute in WITH_ATTRIBUTE.items():
            with self.subTest(name=name):
                error = getattr(errors, name)(**{attribute: 3})
                self.assertEqual(getattr(error, attribute), 3)

    def test_the_others_have_no_attribute(self):
        for name in WITHOUT:
            with self.subTest(name=name):
                self.assertEqual(vars(getattr(errors, name)()), {})
                with self.assertRaises(TypeError):
                    getattr(errors, name)(1)

    def test_each_has_a_message(self):
        for name in WITH_ATTRIBUTE:
            self.assertTrue(str(getattr(errors, name)("a")))
        for name in WITHOUT:
            self.assertTrue(str(getattr(errors, name)()))

    def test_a_refused_number_may_be_of_any_size(self):
        # Python refuses to write out a number of more than 4300 digits.
        for name in ["BadChoice", "UnknownReader", "Stalled", "KeyLimit"]:
            with self.subTest(name=name):
                error = getattr(errors, name)(10 ** 5000)
                self.assertEqual(vars(error), {WITH_ATTRIBUTE[name]: 10 ** 5000})
                self.assertTrue(str(error))
                self.assertTrue(repr(error))


if __name__ == "__main__":
    unittest.main()

import unittest

from stairrooms import errors

NAMES = [
    "NoHouse", "NoStair", "NoPlace", "TooGreat", "NoWalk", "Endless",
    "NotBare", "NoText", "NoLine", "NoWay", "NoDeed",
]


class Errors(unittest.TestCase):
    def test_stair_error_stands_under_value_error(self):
        self.assertTrue(issubclass(errors.StairError, ValueError))

    def test_each_refusal_stands_under_stair_error(self):
        for name in NAMES:
            with self.subTest(name):
                self.assertTrue(issubclass(getattr(errors, name), errors.StairError))

    def test_each_refusal_has_a_class_of_its_own_and_none_stands_under_another(self):
        for name in NAMES:
            for other in NAMES:
                if name != other:
                    with self.subTest(name=name, other=other):
                        self.assertFalse(issubclass(getattr(errors, name), getattr(errors, other)))

    def test_stair_error_stands_under_none_of_them(self):
        for name in NAMES:
            self.assertFalse(issubclass(errors.StairError, getattr(errors, name)))

    def test_no_walk_has_its_field(self):
        for at in (0, 3, 20000):
            self.assertEqual(errors.NoWalk(at).at, at)

    def test_a_no_walk_that_is_raised_keeps_its_field(self):
        with self.assertRaises(errors.NoWalk) as caught:
            raise errors.NoWalk(5)
        self.assertEqual(caught.exception.at, 5)


if __name__ == "__main__":
    unittest.main()

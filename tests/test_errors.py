import unittest

from modulewood import errors
from modulewood.errors import NetError

NAMES = ("NoNet NoPlace SamePlace Twice Taken NoColours NoSet NoParting NoGroup TooMany "
         "NoDeed Unlike NoText NoRow NoName").split()


class Refusals(unittest.TestCase):
    def test_the_base_stands_straight_under_value_error(self):
        self.assertEqual(NetError.__bases__, (ValueError,))

    def test_each_refusal_stands_straight_under_the_base(self):
        for name in NAMES:
            with self.subTest(name):
                self.assertEqual(getattr(errors, name).__bases__, (NetError,))

    def test_no_refusal_stands_under_another_one(self):
        for name in NAMES:
            for other in NAMES:
                if name != other:
                    with self.subTest(name=name, other=other):
                        self.assertFalse(issubclass(getattr(errors, name), getattr(errors, other)))

    def test_each_is_raised_and_taken_by_its_name(self):
        for name in NAMES:
            refusal = getattr(errors, name)
            for taken in (refusal, NetError, ValueError):
                with self.subTest(name=name, taken=taken):
                    with self.assertRaises(taken):
                        raise refusal("words")

    def test_nothing_else_is_a_refusal(self):
        classes = [name for name, thing in vars(errors).items() if isinstance(thing, type)]
        self.assertEqual(sorted(classes), sorted(NAMES + ["NetError"]))


if __name__ == "__main__":
    unittest.main()

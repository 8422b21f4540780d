"""The errors: [12]."""

import unittest

from needpegs import errors

ARGUMENTS = {
    "PegError": (),
    "NoBoard": ("word", "at"),
    "NoText": ("line",),
    "NoFamily": ("word", "sets"),
    "NoTurn": ("peg",),
    "Missing": ("peg", "needed"),
    "Needed": ("peg", "by"),
    "Barred": ("peg", "other"),
    "NoMatch": ("word",),
    "Stuck": ("at",),
    "Unmet": ("word", "peg", "other"),
    "Held": ("peg",),
    "Spent": ("cost",),
    "NoDeed": ("word",),
    "Broken": ("at",),
    "NoCommand": (),
    "NoPeg": ("peg",),
    "NoWalker": ("name",),
}
BASES = {"PegError": ValueError, "NoPeg": KeyError, "NoWalker": KeyError}


class ErrorsTest(unittest.TestCase):
    def test_there_are_eighteen_and_no_others(self):
        found = {name for name, value in vars(errors).items() if isinstance(value, type)}
        self.assertEqual(found, set(ARGUMENTS))
        self.assertEqual(len(found), 18)

    def test_each_has_its_direct_base_alone(self):
        for name in ARGUMENTS:
            with self.subTest(name):
                self.assertEqual(getattr(errors, name).__bases__, (BASES.get(name, errors.PegError),))

    def test_each_is_an_instance_of_no_other(self):
        for name, arguments in ARGUMENTS.items():
            error = getattr(errors, name)(*arguments)
            own = {name} if name in BASES else {name, "PegError"}
            for other in ARGUMENTS:
                with self.subTest(name, other=other):
                    self.assertEqual(isinstance(error, getattr(errors, other)), other in own)

    def test_peg_errors_are_value_errors_and_the_two_are_not(self):
        for name, arguments in ARGUMENTS.items():
            error = getattr(errors, name)(*arguments)
            with self.subTest(name):
                self.assertEqual(isinstance(error, ValueError), name not in ("NoPeg", "NoWalker"))
                self.assertEqual(isinstance(error, KeyError), name in ("NoPeg", "NoWalker"))

    def test_the_very_values_are_kept_by_position(self):
        for name, arguments in ARGUMENTS.items():
            values = [[argument] for argument in arguments]
            self.check_kept(getattr(errors, name)(*values), arguments, values)

    def test_the_very_values_are_kept_by_keyword(self):
        for name, arguments in ARGUMENTS.items():
            values = [[argument] for argument in arguments]
            self.check_kept(getattr(errors, name)(**dict(zip(arguments, values))), arguments, values)

    def check_kept(self, error, arguments, values):
        with self.subTest(error.__class__.__name__):
            self.assertEqual(set(vars(error)), set(arguments))
            for argument, value in zip(arguments, values):
                self.assertIs(getattr(error, argument), value)
                value.append("later")
                self.assertEqual(getattr(error, argument), [argument, "later"])

    def test_any_values_are_kept(self):
        for value in (None, True, False, 0, 10 ** 30, "", "a", (), ((1, "x"),), [[]]):
            error = errors.NoFamily(value, value)
            self.assertIs(error.word, value)
            self.assertIs(error.sets, value)

    def test_each_can_be_raised_and_caught(self):
        for name, arguments in ARGUMENTS.items():
            kind = getattr(errors, name)
            with self.subTest(name), self.assertRaises(kind):
                raise kind(*arguments)

    def test_arguments_are_not_left_out(self):
        for name, arguments in ARGUMENTS.items():
            if arguments:
                with self.subTest(name), self.assertRaises(TypeError):
                    getattr(errors, name)(*arguments[1:])


if __name__ == "__main__":
    unittest.main()

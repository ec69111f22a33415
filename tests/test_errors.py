"""The errors: their classes, parameters and attributes."""

import unittest

import nowaittasks.errors as errors
from helpers import Case

PARAMETERS = {
    "BadPoint": ("point",), "BadWeb": ("place",), "BadTask": ("word", "cell"), "BadText": ("line",),
    "BadName": ("name",), "BadRound": ("place",), "BadRun": ("place",), "BadInputs": ("place",),
    "BadView": (), "BadNumber": ("word",), "BadRow": ("place",), "BadMove": ("number",),
    "BadSpot": ("place",), "BadPlan": ("word", "cell"), "NotNeat": (), "NotJoined": ("cell",),
    "NotThin": ("cell",), "NotOneRing": ("edge",), "NotHelly": (), "NotLoop": ("word",), "TooMany": ("word",),
}


class TestErrors(Case):
    def test_each_class_keeps_its_parameters(self):
        for name, words in PARAMETERS.items():
            made = getattr(errors, name)(*[f"given {word}" for word in words])
            for word in words:
                self.assertEqual(getattr(made, word), f"given {word}", name)
            self.assertIsInstance(str(made), str)

    def test_parameters_have_their_names(self):
        for name, words in PARAMETERS.items():
            made = getattr(errors, name)(**{word: f"given {word}" for word in words})
            for word in words:
                self.assertEqual(getattr(made, word), f"given {word}", name)

    def test_no_parameter_more_or_less(self):
        for name, words in PARAMETERS.items():
            with self.assertRaises(TypeError):
                getattr(errors, name)(*(["word"] * (len(words) + 1)))
            if words:
                with self.assertRaises(TypeError):
                    getattr(errors, name)(*(["word"] * (len(words) - 1)))

    def test_what_is_no_word_may_be_anything(self):
        for name, words in PARAMETERS.items():
            for thing in (None, True, 10 ** 5000, object(), [[]], "", {}, (1, (2,))):
                told = ["a text" if word == "word" else thing for word in words]
                made = getattr(errors, name)(*told)
                for word, value in zip(words, told):
                    self.assertIs(getattr(made, word), value)
                str(made)

    def test_no_class_is_a_kind_of_another(self):
        for name in PARAMETERS:
            one = getattr(errors, name)
            self.assertEqual(one.__bases__, (errors.TaskError,))
        self.assertEqual(errors.TaskError.__bases__, (Exception,))

    def test_they_are_defined_there(self):
        for name in list(PARAMETERS) + ["TaskError"]:
            self.assertEqual(getattr(errors, name).__module__, "nowaittasks.errors")

    def test_they_can_be_raised_and_caught_as_task_errors(self):
        for name, words in PARAMETERS.items():
            with self.assertRaises(errors.TaskError):
                raise getattr(errors, name)(*words)


if __name__ == "__main__":
    unittest.main()

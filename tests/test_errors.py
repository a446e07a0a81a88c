"""The errors: each class, its one base, its field."""

import unittest

from unseenturn import errors

FIELDS = {"BadTable": "place", "BadStand": "number", "BadTurning": "number", "BadWish": "number", "BadLot": "number",
          "BadRow": "number", "BadPattern": "number", "BadFelt": "number", "BadHearing": "step", "BadRun": "place",
          "BadPaper": "place"}
TEXTS = {"NotEven": errors.UnseenError, "OutOfPlace": errors.UnseenError, "TooGreat": errors.UnseenError,
         "Never": errors.MissError, "NotSure": errors.MissError,
         "Rung": errors.StateError, "Untimely": errors.StateError}


class Errors(unittest.TestCase):
    def test_heads_stand_under_python_s_own(self):
        self.assertEqual(errors.UnseenError.__bases__, (ValueError,))
        self.assertEqual(errors.MissError.__bases__, (LookupError,))
        self.assertEqual(errors.StateError.__bases__, (RuntimeError,))

    def test_fields(self):
        for name, field in FIELDS.items():
            with self.subTest(name):
                error = getattr(errors, name)
                self.assertEqual(error.__bases__, (errors.UnseenError,))
                self.assertIsNone(getattr(error(), field))
                for value in (None, 0, 7, "stand", (1, 2)):
                    self.assertEqual(vars(error(value)), {field: value})
                    self.assertEqual(vars(error(**{field: value})), {field: value})
                with self.assertRaises(TypeError):
                    error(1, 2)

    def test_inside_has_to_be_told_its_step(self):
        self.assertEqual(errors.Inside.__bases__, (errors.MissError,))
        self.assertEqual(vars(errors.Inside(3)), {"step": 3})
        self.assertEqual(vars(errors.Inside(step=0)), {"step": 0})
        with self.assertRaises(TypeError):
            errors.Inside()

    def test_texts(self):
        for name, base in TEXTS.items():
            with self.subTest(name):
                error = getattr(errors, name)
                self.assertEqual(error.__bases__, (base,))
                self.assertEqual(str(error("so it is")), "so it is")
                self.assertEqual(vars(error("so it is")), {})

    def test_there_are_no_others(self):
        here = {name for name, thing in vars(errors).items() if isinstance(thing, type)}
        heads = {"UnseenError", "MissError", "StateError", "Inside"}
        self.assertEqual(here, set(FIELDS) | set(TEXTS) | heads)


if __name__ == "__main__":
    unittest.main()

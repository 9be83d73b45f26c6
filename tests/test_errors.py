import unittest

from tagwebs import errors

ATTRIBUTES = {
    (): [
        "Unlike", "NotPlain", "NotDoorless", "OutOfReach", "NotUnseen", "NotSeen", "OtherGame", "NothingToUndo",
        "NothingToRedo",
    ],
    ("part", "place"): ["BadWeb", "BadPaper", "BadBags", "BadSides", "BadRow", "BadShut", "BadPlan", "UnfitPlan"],
    ("part",): ["BadJoin", "BadGame", "BadCarry"],
    ("name",): ["UnknownName"],
    ("word",): ["NotNow"],
    ("place",): ["UnknownPlace", "NotFree", "CannotRun"],
    ("post",): ["BadPost", "CannotSend"],
    ("standing",): ["UnknownStanding"],
    ("position",): ["UnknownPosition"],
    ("number",): ["BadNumber", "TooMany", "BadLine", "BadFold"],
    ("number", "why"): ["BadCommand"],
}


class Errors(unittest.TestCase):
    def test_base(self):
        self.assertEqual(errors.TagError.__bases__, (ValueError,))

    def test_each_stands_under_the_base_with_its_attributes(self):
        for names, classes in ATTRIBUTES.items():
            for name in classes:
                with self.subTest(name):
                    made = getattr(errors, name)
                    self.assertEqual(made.__bases__, (errors.TagError,))
                    values = [f"value {at}" for at in range(len(names))]
                    self.assertEqual(vars(made(*values)), dict(zip(names, values)))

    def test_there_are_no_others(self):
        listed = [name for classes in ATTRIBUTES.values() for name in classes]
        found = [name for name in vars(errors) if not name.startswith("_")]
        self.assertEqual(sorted(found), sorted([*listed, "TagError"]))
        self.assertEqual(len(listed), len(set(listed)))

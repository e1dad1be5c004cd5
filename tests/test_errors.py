"""The classes of errors.py: their attributes, and of what each is a direct subclass."""

import unittest

from webnames import errors

FAMILIES = {
    ("TermError", ValueError): {
        "InvalidMany": ["value"], "BadName": ["text"], "BadText": ["row", "spot"], "InvalidCommand": ["value"],
        "InvalidHand": ["place"], "InvalidPart": ["place"], "InvalidRound": ["place", "value"],
        "InvalidSide": ["place"], "InvalidTie": ["place"], "NotTreeName": ["value"], "TakenPart": ["name", "row"],
        "UnfitAnswer": ["value"], "UnfitNumbering": ["value"], "UnfitQuestion": ["value"],
        "UnfitRow": ["row", "what"],
    },
    ("MissingError", LookupError): {
        "MissingHand": ["part"], "MissingId": ["given"], "MissingMember": ["value"], "MissingSide": ["a", "b"],
        "NoCandidate": ["place", "part"], "UnknownLabel": ["label"], "UnknownNote": ["label"],
        "UnknownPart": ["name", "row"], "UnknownWeb": ["name"],
    },
    ("StateError", RuntimeError): {
        "CannotDo": ["deed"], "CommandFailed": ["place"], "HasRing": ["part"], "NoLeaf": ["path"],
        "NotEven": ["part"], "NothingToRedo": [], "NothingToUndo": [], "StillFits": ["part"],
        "TakenHand": ["place"], "TakenLabel": ["label"], "TakenNote": ["label"], "TakenSide": ["place"],
        "TakenTie": ["place"], "TakenWeb": ["name"],
    },
    ("LimitError", ArithmeticError): {"TooMany": ["what", "limit"]},
}


class Errors(unittest.TestCase):
    def test_bases(self):
        for (family, python), members in FAMILIES.items():
            base = getattr(errors, family)
            self.assertEqual(base.__bases__, (python,))
            for name in members:
                self.assertEqual(getattr(errors, name).__bases__, (base,), name)

    def test_attributes(self):
        for members in FAMILIES.values():
            for name, names in members.items():
                made = getattr(errors, name)
                for values in (range(1, 9), ["text", None], [[1, [2]], (3, [4])], [True, b""]):
                    given = dict(zip(names, values))
                    for error in (made(*given.values()), made(**given)):
                        for attribute, value in given.items():
                            self.assertEqual(getattr(error, attribute), value, name)
                            self.assertIs(type(getattr(error, attribute)), type(value), name)
                        with self.assertRaises(made):
                            raise error

    def test_lists_are_copied(self):
        value = [1, ([2],)]
        error = errors.InvalidMany(value)
        value[1][0].append(3)
        value.append(4)
        self.assertEqual(error.value, [1, ([2],)])

    def test_no_others(self):
        told = {name for members in FAMILIES.values() for name in members} | {family for family, _ in FAMILIES}
        classes = {name for name, value in vars(errors).items() if isinstance(value, type)}
        self.assertEqual(classes, told)


if __name__ == "__main__":
    unittest.main()

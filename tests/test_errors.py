import unittest

from evenmeet import errors
from evenmeet.changes import at_block, at_point, dual, off_block, off_point
from evenmeet.errors import MeetError
from evenmeet.fields import Field
from evenmeet.forms import form_told, shuts
from evenmeet.layouts import layout_of, renamed
from evenmeet.layouttexts import read_layout
from evenmeet.nets import squares_back
from evenmeet.numbers import is_rest, plain_part, primes_of, root_of, shared
from evenmeet.sets import grown_arc, thinned_set
from evenmeet.turning import developed, differences

VALUES = {
    "NoNumber": None,
    "NoLayout": "place",
    "NoRow": None,
    "NoText": None,
    "NoDual": None,
    "NoPart": None,
    "NoField": "factor",
    "NoNet": None,
    "NoBases": "place",
    "NoArc": "block",
    "NoMeeting": "block",
    "NoWish": None,
    "NoDeskRow": None,
    "NoName": None,
}


class Errors(unittest.TestCase):
    def test_meet_error_stands_straight_under_value_error(self):
        self.assertEqual(MeetError.__bases__, (ValueError,))

    def test_each_class_is_there_under_meet_error_and_no_other(self):
        for name in VALUES:
            self.assertEqual(getattr(errors, name).__bases__, (MeetError,), name)
            for other in VALUES:
                if other != name:
                    self.assertFalse(issubclass(getattr(errors, name), getattr(errors, other)), (name, other))

    def test_each_error_can_be_taken_as_a_refusal(self):
        for name in VALUES:
            kind = getattr(errors, name)
            for base in (kind, MeetError, ValueError):
                with self.assertRaises(base):
                    raise kind(3)

    def test_values_are_set_when_the_error_is_made(self):
        for name, value in VALUES.items():
            if value is not None:
                for told in (None, 0, 7, (1, 1)):
                    self.assertEqual(getattr(getattr(errors, name)(told), value), told, name)

    def test_a_place_or_factor_that_is_not_told_is_none(self):
        self.assertIsNone(errors.NoLayout().place)
        self.assertIsNone(errors.NoBases().place)
        self.assertIsNone(errors.NoField().factor)

    def test_each_refusal_has_just_its_own_class(self):
        asked = [
            lambda: shared(None, 1),
            lambda: primes_of(0),
            lambda: root_of(-1),
            lambda: plain_part(0),
            lambda: is_rest(1, 4),
            lambda: is_rest("1", 3),
            lambda: form_told(0, 1),
            lambda: form_told(1, True),
            lambda: shuts(1, 0, 3),
        ]
        for ask in asked:
            with self.assertRaises(MeetError) as caught:
                ask()
            self.assertIs(type(caught.exception), errors.NoNumber)

    def test_each_refusal_of_layouts_has_just_its_own_class(self):
        M = (2, ((), (0, 1)))
        asked = [
            ("NoLayout", lambda: layout_of(0, [])),
            ("NoLayout", lambda: layout_of(2, [[0], [None]])),
            ("NoLayout", lambda: layout_of(2, [[0, 0]])),
            ("NoLayout", lambda: layout_of(2, [[]] * 201)),
            ("NoLayout", lambda: read_layout("2: 2")),
            ("NoRow", lambda: renamed(M, (0, 1))),
            ("NoRow", lambda: renamed(M, [0, 0])),
            ("NoText", lambda: read_layout("2")),
            ("NoText", lambda: read_layout(None)),
            ("NoDual", lambda: dual((2, ()))),
            ("NoDual", lambda: dual((2, ((),) * 61))),
            ("NoPart", lambda: at_point(M, 2)),
            ("NoPart", lambda: off_point(M, None)),
            ("NoPart", lambda: off_point((1, ()), 0)),
            ("NoPart", lambda: at_block(M, 0)),
            ("NoPart", lambda: off_block(M, 1)),
            ("NoPart", lambda: off_block(M, "0")),
        ]
        self.check_classes(asked)

    def test_each_refusal_of_fields_and_nets_has_just_its_own_class(self):
        four = Field(2, (1, 1, 1))
        asked = [
            ("NoField", lambda: Field(1, (0, 1))),
            ("NoField", lambda: Field("2", (0, 1))),
            ("NoField", lambda: Field(2, [0, 1])),
            ("NoField", lambda: Field(2, (0, 2))),
            ("NoField", lambda: Field(37, (0, 1))),
            ("NoField", lambda: Field(4, (0, 1))),
            ("NoField", lambda: Field(2, (0, 0, 1))),
            ("NoNumber", lambda: four.plus(4, 0)),
            ("NoNumber", lambda: four.minus(0, -1)),
            ("NoNumber", lambda: four.times(True, 1)),
            ("NoNumber", lambda: four.back(0)),
            ("NoNumber", lambda: four.back(None)),
            ("NoNet", lambda: squares_back((2, ()))),
            ("NoNet", lambda: squares_back((4, ((0, 1), (2, 3))))),
            ("NoNet", lambda: squares_back((4, ((0, 1), (2, 3), (0, 1), (2, 3))))),
            ("NoNet", lambda: squares_back((4, ((0, 1), (2, 3), (0, 2), (1,))))),
            ("NoNet", lambda: squares_back((4, ((0, 1), (2, 3), (0, 2), (0, 1, 3))))),
        ]
        self.check_classes(asked)

    def test_each_refusal_of_bases_and_sets_has_just_its_own_class(self):
        M = (4, ((0, 1, 2), (), (1, 2, 3)))
        asked = [
            ("NoArc", lambda: grown_arc(M, [0, 1, 2])),
            ("NoArc", lambda: grown_arc(M, [1, 2, 3])),
            ("NoMeeting", lambda: thinned_set(M, [0, 1, 2, 3])),
            ("NoMeeting", lambda: thinned_set(M, [])),
        ]
        for ask in (developed, differences):
            asked += [
                ("NoBases", lambda ask=ask: ask(0, [])),
                ("NoBases", lambda ask=ask: ask(61, [])),
                ("NoBases", lambda ask=ask: ask(True, [[0]])),
                ("NoBases", lambda ask=ask: ask("7", [[0]])),
                ("NoBases", lambda ask=ask: ask(None, [[0]])),
                ("NoBases", lambda ask=ask: ask(7, [[0]] * 29)),
                ("NoBases", lambda ask=ask: ask(7, [[0], [1, 1]])),
                ("NoBases", lambda ask=ask: ask(7, [[7]])),
                ("NoBases", lambda ask=ask: ask(7, [[-1]])),
                ("NoBases", lambda ask=ask: ask(7, [[True]])),
                ("NoBases", lambda ask=ask: ask(7, [None])),
            ]
        self.check_classes(asked)

    def check_classes(self, asked):
        for name, ask in asked:
            with self.assertRaises(MeetError) as caught:
                ask()
            self.assertIs(type(caught.exception), getattr(errors, name))
            self.assertIsInstance(caught.exception, ValueError)
            for other in VALUES:
                self.assertEqual(isinstance(caught.exception, getattr(errors, other)), other == name)


if __name__ == "__main__":
    unittest.main()

"""The module desks: what all four classes do, and the errors of each method."""

import inspect
import random
import unittest

from daychains.calendars import Calendar
from daychains.desks import Counter, Desk, Limited, LimitedCounter
from daychains.errors import (InvalidCalendars, InvalidDay, InvalidRule, InvalidStretches, NothingToUndo,
                              UnknownOffice)
from daychains.moves import moved
from model import FAR, some_rule
from values import ANY_VALUES, NO_INTEGERS, NO_RULES, NOT_CALENDARS, NOT_RULES

OFFICES = {"ny": Calendar("ooooo--"), "ldn": Calendar("ooooo--", closed=[(7, 7)])}
CLASSES = [Desk, Counter, Limited, LimitedCounter]


def wide(kind, day, **offices):
    """Return a desk of this class that no limit keeps from a move."""
    if kind in (Limited, LimitedCounter):
        return kind(day, limit=10 ** 30, **offices)
    return kind(day, **offices)


def desks(day=4, offices=None):
    return [wide(kind, day, **(OFFICES if offices is None else offices)) for kind in CLASSES]


def picture(desk):
    """Return all that can be seen of a desk."""
    return desk.day, desk.calendars, list(desk.days()), len(desk), desk.told()


class Creation(unittest.TestCase):
    def test_new_desks(self):
        for desk in desks():
            self.assertEqual((desk.day, len(desk), list(desk.days())), (4, 0, [4]))
            self.assertEqual(desk.calendars, OFFICES)
        for kind in CLASSES:
            self.assertEqual((kind(day=-FAR).day, kind(3).calendars), (-FAR, {}))
            self.assertEqual(kind(ny=Calendar("o"), day=7).day, 7)

    def test_days(self):
        for kind in CLASSES:
            for number, value in enumerate(NO_INTEGERS):
                with self.subTest(number):
                    self.assertRaises(InvalidDay, kind, value)
                    self.assertRaises(InvalidDay, kind, value, ny=Calendar("o"))
                    self.assertRaises(InvalidDay, kind, value, ny=None, Ny=7)

    def test_calendars(self):
        wrong = [value for value in NOT_CALENDARS if isinstance(value, dict) and all(type(key) is str for key in value)]
        self.assertGreater(len(wrong), 12)
        wrong += [{"ny": value} for value in ANY_VALUES if not isinstance(value, Calendar)]
        wrong += [{"ny": Calendar("o"), key: Calendar("o")} for key in ("", "+", "Ny", "n_y", "abcdefghi", "n1")]
        for number, offices in enumerate(wrong):
            for kind in CLASSES:
                with self.subTest(number):
                    self.assertRaises(InvalidCalendars, kind, 4, **offices)

    def test_the_classes(self):
        self.assertTrue(issubclass(Counter, Desk) and issubclass(Limited, Desk))
        self.assertTrue(issubclass(LimitedCounter, Counter) and issubclass(LimitedCounter, Limited))
        self.assertEqual([str(inspect.signature(kind)) for kind in CLASSES],
                         ["(day, **offices)"] * 2 + ["(day, *, limit=10, **offices)"] * 2)


class Calendars(unittest.TestCase):
    def test_ascending_offices(self):
        offices = {name: Calendar("o") for name in ["ny", "b", "ldn", "a", "aa", "z", "abcdefgh"]}
        for desk in desks(0, offices):
            self.assertEqual(list(desk.calendars), ["a", "aa", "abcdefgh", "b", "ldn", "ny", "z"])
            desk.close_office("ny", 1, 2)
            desk.open_office("aa", 1, 2)
            self.assertEqual(list(desk.calendars), ["a", "aa", "abcdefgh", "b", "ldn", "ny", "z"])

    def test_new_at_each_call(self):
        for desk in desks():
            desk.calendars.clear()
            desk.calendars["x"] = Calendar("o")
            self.assertEqual(desk.calendars, OFFICES)
            before = desk.calendars
            desk.close_office("ny", 0, 9)
            self.assertEqual(before, OFFICES)

    def test_arguments_are_copied(self):
        offices = dict(OFFICES)
        for desk in desks(4, offices):
            desk.close_office("ny", 0, 9)
            self.assertEqual(offices, OFFICES)
        desk = Desk(4, **offices)
        offices.clear()
        self.assertEqual(desk.calendars, OFFICES)

    def test_properties_are_not_set(self):
        for desk in desks():
            for name in ("day", "calendars"):
                with self.assertRaises(AttributeError):
                    setattr(desk, name, 7)


class GoTo(unittest.TestCase):
    def test_days(self):
        for desk in desks():
            self.assertIsNone(desk.go_to(-FAR))
            self.assertIsNone(desk.go_to(day=6))
            self.assertEqual((desk.day, len(desk), list(desk.days())), (6, 2, [4, -FAR, 6]))

    def test_the_present_day(self):
        for desk in desks():
            desk.go_to(4)
            self.assertEqual((len(desk), list(desk.days())), (1, [4, 4]))
            desk.undo()
            self.assertEqual((desk.day, len(desk)), (4, 0))

    def test_any_value(self):
        for desk in desks():
            before = picture(desk)
            for number, value in enumerate(NO_INTEGERS):
                with self.subTest(number):
                    self.assertRaises(InvalidDay, desk.go_to, value)
            self.assertEqual(picture(desk), before)


class Move(unittest.TestCase):
    def test_letters(self):
        for desk in desks():
            self.assertEqual([desk.move("ny", "+", "ny"), desk.day], [7, 7])
            self.assertEqual([desk.move("ldn"), desk.move("+"), desk.move("+", "+")], [8, 9, 11])
            self.assertEqual((desk.day, len(desk), list(desk.days())), (11, 4, [4, 7, 8, 9, 11]))

    def test_a_move_that_changes_nothing(self):
        for desk in desks():
            self.assertEqual(desk.move("ny", "ny"), 4)
            self.assertEqual((len(desk), list(desk.days())), (1, [4, 4]))

    def test_without_letters(self):
        for desk in desks():
            self.assertEqual(desk.move(), 4)
            self.assertEqual((len(desk), list(desk.days())), (0, [4]))
            self.assertRaises(NothingToUndo, desk.undo)
            desk.go_to(9)
            self.assertEqual((desk.move(), len(desk)), (9, 1))

    def test_against_moved(self):
        source = random.Random(601)
        for _ in range(40):
            rule = some_rule(source, ["ny", "ldn", "+"], 200)
            day = source.choice([source.randint(-20, 20), source.randint(-FAR, FAR)])
            for desk in desks(day):
                self.assertEqual(desk.move(*rule), moved(OFFICES, rule, day))
                self.assertEqual(len(desk), 1 if rule else 0)

    def test_wrong_letters(self):
        for desk in desks():
            before = picture(desk)
            for number, value in enumerate(ANY_VALUES):
                with self.subTest(number):
                    self.assertRaises(InvalidRule, desk.move, value)
                    self.assertRaises(InvalidRule, desk.move, "ny", value)
                    self.assertRaises(InvalidRule, desk.move, "a", "+", value)
            for letters in NO_RULES:
                self.assertRaises(InvalidRule, desk.move, *letters)
            self.assertEqual(picture(desk), before)

    def test_unknown_offices(self):
        for desk in desks():
            before = picture(desk)
            for letters, office in [(["a"], "a"), (["ny", "+", "b", "a"], "b"), (["nyc", "ny"], "nyc")]:
                with self.assertRaises(UnknownOffice) as caught:
                    desk.move(*letters)
                self.assertEqual(caught.exception.office, office)
            self.assertEqual(picture(desk), before)
        self.assertRaises(UnknownOffice, Desk(4).move, "ny")


class OpenAndClose(unittest.TestCase):
    def test_stretches(self):
        for desk in desks():
            self.assertIsNone(desk.close_office("ny", 7, 8))
            self.assertEqual([desk.move("+", "ny"), len(desk)], [9, 2])
            desk.undo()
            self.assertIsNone(desk.open_office("ny", 5, 7))
            self.assertEqual(desk.move("+", "ny"), 5)
            self.assertEqual(desk.calendars, {"ny": OFFICES["ny"].with_closed(7, 8).with_opened(5, 7),
                                              "ldn": OFFICES["ldn"]})
            self.assertEqual(list(desk.days()), [4, 4, 4, 5])

    def test_one_that_changes_nothing(self):
        for desk in desks():
            desk.close_office("ldn", 7, 7)
            desk.open_office("ny", 0, 4)
            self.assertEqual((desk.calendars, len(desk), list(desk.days())), (OFFICES, 2, [4, 4, 4]))
            desk.undo()
            desk.undo()
            self.assertRaises(NothingToUndo, desk.undo)

    def test_far(self):
        for desk in desks():
            desk.close_office(office="ny", first=-FAR, last=FAR - 9)
            self.assertEqual(desk.move("ny"), OFFICES["ny"].next_open(FAR - 8))
            desk.open_office(last=FAR + 99, office="ny", first=FAR)
            desk.go_to(FAR)
            self.assertEqual(desk.move(*["+", "ny"] * 100), OFFICES["ny"].next_open(FAR + 100))

    def test_unknown_offices(self):
        for desk in desks():
            before = picture(desk)
            for function in (desk.close_office, desk.open_office):
                for number, value in enumerate(ANY_VALUES + ["a", "+", "nyc", ["ny"], ("ny",), "NY"]):
                    with self.subTest(number):
                        for ends in [(7, 8), (None, None), (8, 7)]:
                            with self.assertRaises(UnknownOffice) as caught:
                                function(value, *ends)
                            self.assertIs(caught.exception.office, value)
            self.assertEqual(picture(desk), before)

    def test_wrong_ends(self):
        for desk in desks():
            before = picture(desk)
            for function in (desk.close_office, desk.open_office):
                for number, value in enumerate(NO_INTEGERS):
                    with self.subTest(number):
                        self.assertRaises(InvalidDay, function, "ny", value, 8)
                        self.assertRaises(InvalidDay, function, "ny", 8, value)
                self.assertRaises(InvalidStretches, function, "ny", 8, 7)
                self.assertRaises(InvalidStretches, function, "ldn", FAR, -FAR)
            self.assertEqual(picture(desk), before)


class Undo(unittest.TestCase):
    def test_each_kind(self):
        for desk in desks():
            pictures = [picture(desk)]
            for operation in [lambda: desk.move("ny", "+", "ny"), lambda: desk.go_to(-5), lambda: desk.move("+"),
                              lambda: desk.close_office("ny", 0, 9), lambda: desk.move("ny"),
                              lambda: desk.open_office("ldn", 5, 6), lambda: desk.close_office("ldn", 5, 5),
                              lambda: desk.move("ldn"), lambda: desk.go_to(4), lambda: desk.go_to(4)]:
                operation()
                pictures.append(picture(desk))
                self.assertEqual(len(desk), len(pictures) - 1)
            for before in pictures[-2::-1]:
                self.assertIsNone(desk.undo())
                self.assertEqual(picture(desk), before)
            self.assertRaises(NothingToUndo, desk.undo)
            self.assertEqual(picture(desk), pictures[0])

    def test_operations_after_reverted_ones(self):
        for desk in desks():
            desk.move("+")
            desk.move("+")
            desk.undo()
            desk.go_to(9)
            self.assertEqual((desk.day, len(desk), list(desk.days())), (9, 2, [4, 5, 9]))
            desk.undo()
            desk.undo()
            self.assertEqual((desk.day, len(desk), list(desk.days())), (4, 0, [4]))
            self.assertRaises(NothingToUndo, desk.undo)

    def test_an_operation_that_raises_an_error_is_none(self):
        for desk in desks():
            desk.move("+")
            self.assertRaises(UnknownOffice, desk.move, "+", "a")
            self.assertRaises(InvalidDay, desk.go_to, None)
            self.assertRaises(InvalidStretches, desk.close_office, "ny", 8, 7)
            desk.undo()
            self.assertEqual((desk.day, len(desk)), (4, 0))

    def test_many_operations(self):
        for desk in desks():
            for number in range(100):
                desk.close_office("ny", 10 * number, 10 * number + 5)
            self.assertEqual(len(desk), 100)
            for _ in range(100):
                desk.undo()
            self.assertEqual((desk.calendars, len(desk)), (OFFICES, 0))


class Trial(unittest.TestCase):
    def test_rules(self):
        for desk in desks():
            desk.move("+")
            before = picture(desk)
            self.assertEqual(desk.trial(["ny"], ["+"], [], ["ldn", "+"]), [7, 8, 8, 9])
            self.assertEqual(desk.trial([]), [5])
            self.assertEqual(desk.trial(), [])
            self.assertEqual(desk.trial(*[["+", "ny"]] * 20)[-1], OFFICES["ny"].nth_open(5, 19))
            self.assertEqual(picture(desk), before)
            desk.undo()
            self.assertEqual((desk.day, len(desk)), (4, 0))

    def test_rules_stay_and_results_are_new(self):
        rule = ["ny", "ny", "+"]
        for desk in desks():
            desk.trial(rule, rule).append(7)
            self.assertEqual((rule, desk.trial(rule, rule)), (["ny", "ny", "+"], [5, 8]))

    def test_wrong_rules(self):
        for desk in desks():
            before = picture(desk)
            for number, value in enumerate(NOT_RULES):
                with self.subTest(number):
                    self.assertRaises(InvalidRule, desk.trial, value)
                    self.assertRaises(InvalidRule, desk.trial, ["+"], ["ny"], value)
            self.assertEqual(picture(desk), before)

    def test_the_first_rule_for_which_an_error_is_due(self):
        for desk in desks():
            before = picture(desk)
            for rules, error in [
                    (([], ["+", "a"], None), UnknownOffice), ((["+"], None, ["a"]), InvalidRule),
                    ((["a"], ["b"]), UnknownOffice), ((["ny"], ["a", 1]), InvalidRule)]:
                self.assertRaises(error, desk.trial, *rules)
            with self.assertRaises(UnknownOffice) as caught:
                desk.trial(["ny"], ["+", "b", "a"], ["c"])
            self.assertEqual(caught.exception.office, "b")
            self.assertEqual(picture(desk), before)


class Days(unittest.TestCase):
    def test_is_a_generator(self):
        for desk in desks():
            desk.move("+")
            days = desk.days()
            self.assertTrue(inspect.isgenerator(days))
            self.assertEqual([next(days), next(days)], [4, 5])
            self.assertRaises(StopIteration, next, days)


class Equality(unittest.TestCase):
    def test_over_classes_and_limits(self):
        for desk in desks():
            for other in [*desks(), LimitedCounter(4, **OFFICES), Limited(4, limit=0, **OFFICES)]:
                self.assertTrue(desk == other and not desk != other)

    def test_what_counts(self):
        for desk in desks():
            for other in desks(5) + desks(4, {}) + desks(4, {"ny": OFFICES["ny"]}) + desks(
                    4, {**OFFICES, "ny": Calendar("o")}) + desks(4, {**OFFICES, "a": Calendar("o")}):
                self.assertTrue(desk != other and not desk == other)
            for other in desks(0, {"ldn": OFFICES["ny"].with_closed(7, 7), "ny": Calendar("ooooo--")}):
                other.move("+", "+", "+")
                other.go_to(4)
                self.assertEqual(desk, other)
                other.close_office("ny", 3, 3)
                self.assertNotEqual(desk, other)
                other.undo()
                self.assertEqual(desk, other)

    def test_other_values(self):
        for desk in desks():
            for value in [4, None, "day 4", OFFICES, (4, OFFICES), [], desk.told(), Calendar("o"), Desk, True]:
                self.assertTrue(desk != value and not desk == value)


class Told(unittest.TestCase):
    def test_words(self):
        self.assertEqual([desk.told() for desk in desks()], [
            ["day 4", "offices 2"], ["day 4", "offices 2", "moved 0"], ["day 4", "offices 2", f"limit {FAR}"],
            ["day 4", "offices 2", "moved 0", f"limit {FAR}"]])
        for kind, behind in [(Desk, []), (Counter, ["moved 0"]), (Limited, ["limit 10"]),
                             (LimitedCounter, ["moved 0", "limit 10"])]:
            self.assertEqual(kind(-FAR).told(), [f"day {-FAR}", "offices 0"] + behind)

    def test_new_at_each_call(self):
        for desk in desks():
            desk.told().append("x")
            self.assertNotIn("x", desk.told())
            desk.move("+")
            self.assertEqual(desk.told()[0], "day 5")


if __name__ == "__main__":
    unittest.main()

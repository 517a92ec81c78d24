"""The module console: commands, their answers, and their errors in their order."""

import random
import unittest

from daychains.calendars import Calendar
from daychains.console import Console
from daychains.errors import DayError, InvalidCommand, ParseError, UnknownOffice
from daychains.meetings import next_common
from daychains.moves import moved
from daychains.notation import format_calendar, format_rule
from daychains.order import never_later
from daychains.starts import latest_start
from model import FAR, some_pattern, some_rule, some_stretches
from values import ANY_VALUES, NO_STRINGS

SETTING = ["office ny ooooo--", "office ldn ooooo-- closed 7 7", "day 4"]


def set_up():
    console = Console()
    for command in SETTING:
        console.execute(command)
    return console


def answers(*commands):
    console = Console()
    return [console.execute(command) for command in commands]


class Answers(unittest.TestCase):
    def test_a_new_console(self):
        self.assertEqual(Console().execute("where ."), "0")
        self.assertEqual(Console().execute("common"), "0")
        self.assertRaises(UnknownOffice, Console().execute, "where ny")

    def test_day(self):
        for day in ("0", "4", "-7", str(FAR), str(-FAR), "9" * 2900, "-" + "9" * 2900):
            self.assertEqual(answers("day " + day, "where .", "common"), ["ok", day, day])
        self.assertEqual(answers("day " + "9" * 2900, "move +", "where +"),
                         ["ok", "1" + "0" * 2900, "1" + "0" * 2899 + "1"])
        self.assertEqual(answers("day 1" + "0" * 5000, "where +")[1], "1" + "0" * 4999 + "1")

    def test_office(self):
        self.assertEqual(answers("office ny o- closed 4 8", "day 3", "where ny"), ["ok", "ok", "10"])
        self.assertEqual(answers("office ny o", "office ny -o", "day 4", "where ny"), ["ok", "ok", "ok", "5"])
        self.assertEqual(answers("office a o opened 1 2", "office b o", "office abcdefgh -o", "where abcdefgh b a"),
                         ["ok", "ok", "ok", "1"])
        self.assertEqual(answers("office closed o", "office office o", "where closed office"), ["ok", "ok", "0"])

    def test_move(self):
        console = set_up()
        self.assertEqual([console.execute("move ny + ny"), console.execute("where ."), console.execute("move ldn"),
                          console.execute("move ."), console.execute("move + + +"), console.execute("move ny")],
                         ["7", "7", "8", "8", "11", "11"])
        self.assertEqual(answers("day -3", "move +", "move + +"), ["ok", "-2", "0"])

    def test_where(self):
        console = set_up()
        self.assertEqual([console.execute(command) for command in
                          ("where ny + ny", "where ny + ldn", "where +", "where .")], ["7", "8", "5", "4"])

    def test_start(self):
        console = set_up()
        self.assertEqual([console.execute("start ny + ny"), console.execute("start ."), console.execute("start + +"),
                          console.execute("where .")], ["3", "4", "2", "4"])
        console.execute("day 6")
        self.assertEqual([console.execute("start ny"), console.execute("start ny + ldn")], ["4", "3"])

    def test_common(self):
        console = set_up()
        self.assertEqual(console.execute("common"), "4")
        console.execute("day 5")
        self.assertEqual([console.execute("common"), console.execute("where .")], ["8", "5"])
        self.assertEqual(answers("office a o-", "office b -o", "common"), ["ok", "ok", "none"])
        self.assertEqual(answers(f"office a o closed 0 {FAR}", "office b -o", "common")[2], str(FAR + 1))

    def test_compare(self):
        for command, answer in [
                ("compare ny ; + ny", "never later"), ("compare + ny ; ny", "never earlier"), ("compare a ; a", "same"),
                ("compare a a ; a", "same"), ("compare . ; .", "same"), ("compare . ; a", "never later"),
                ("compare a ; .", "never earlier"), ("compare a b ; b a", "neither"), ("compare a ; b", "neither"),
                ("compare + + ; + a +", "never later"), ("compare a + a ; a + a", "same")]:
            self.assertEqual(Console().execute(command), answer)

    def test_by_name(self):
        self.assertEqual(Console().execute(command="day 4"), "ok")

    def test_consoles_are_apart(self):
        first, second = set_up(), Console()
        self.assertEqual(second.execute("where ."), "0")
        second.execute("office ny -o")
        second.execute("day 2")
        self.assertEqual([first.execute("where ny"), second.execute("where ny")], ["4", "3"])

    def test_against_the_functions(self):
        source = random.Random(501)
        for _ in range(40):
            console, calendars, day = Console(), {}, 0
            for _ in range(40):
                kind = source.choice(["office", "day", "move", "where", "start", "common", "compare"])
                rule, other = [some_rule(source, [*calendars, "+"], 8) for _ in range(2)]
                words = format_rule(rule)
                if kind == "office":
                    office, pattern = source.choice("abc"), some_pattern(source)
                    closed, opened = [some_stretches(source, source.randint(0, 3), -30, 60, 9) for _ in range(2)]
                    calendars[office] = Calendar(pattern, closed=closed, opened=opened)
                    words, expected = office + " " + format_calendar(pattern, closed=closed, opened=opened), "ok"
                elif kind == "day":
                    day = source.choice([source.randint(-40, 60), source.randint(-FAR, FAR)])
                    words, expected = str(day), "ok"
                elif kind == "move":
                    day = moved(calendars, rule, day)
                    expected = str(day)
                elif kind == "where":
                    expected = str(moved(calendars, rule, day))
                elif kind == "start":
                    expected = str(latest_start(calendars, rule, day))
                elif kind == "common":
                    found = next_common(calendars, day)
                    words, expected = None, "none" if found is None else str(found)
                else:
                    below, above = never_later(rule, other), never_later(other, rule)
                    words = words + " ; " + format_rule(other)
                    expected = {(True, True): "same", (True, False): "never later", (False, True): "never earlier",
                                (False, False): "neither"}[below, above]
                command = kind if words is None else kind + " " + words
                self.assertEqual(console.execute(command), expected)


class Errors(unittest.TestCase):
    def setUp(self):
        self.console = set_up()

    def tearDown(self):
        # No command that has raised an error has changed anything.
        self.assertEqual(self.console.execute("where ."), "4")
        self.assertEqual([self.console.execute("where ny + ny"), self.console.execute("where ldn + ldn")], ["7", "8"])
        self.assertRaises(UnknownOffice, self.console.execute, "where a")

    def test_any_value(self):
        for number, value in enumerate(ANY_VALUES + NO_STRINGS + [["common"], ("day", "4"), b"common"]):
            with self.subTest(number):
                self.assertRaises(InvalidCommand, self.console.execute, value)

    def test_no_command(self):
        for command in [
                "", " ", "  ", "x", "Day 4", "days 4", "da", "commons", "common\n", "\tcommon", " common", " day 4",
                "+", "ny", ".", "office", "day", "move", "where", "start", "compare", "undo", "none", "common ",
                "common .", "common ny", "common  ", "common common", "day ", "day  4", "day 4 ", "day 4 5", "day 4  ",
                "day x", "day -0", "day 04", "day +4", "day 4\n", "day 4.0", "day --4", "day -", "day \u0664", "day\t4",
                "day ny", "day 1_0", "office ny", "office ", "office Ny o", "office + o", "office  o", "office  ny o",
                "office . o", "office abcdefghi o", "office n1 o", "office 7 o", "office o-", "office\tny o",
                "office ny\to", "office Ny", "office Ny x", "office + ", "office  ", "move\tny", "move\nny",
                "mov\u00e9 ny", "where\n", "compare ny", "compare ny + ny", "compare ", "compare  ",
                "compare ny ; ny ; ny", "compare ; ;", "compare ;; ny", "compare ny;ny", "compare ny ;; ny",
                "compare ny ;\nny", "compare x y", "compare . .", "compare X ; ; Y", "compare ; ; ny", "compare;",
                "compare\n; ny"]:
            with self.subTest(command=command):
                self.assertRaises(InvalidCommand, self.console.execute, command)

    def test_not_in_the_notation(self):
        for command, index in [
                ("move ", 0), ("move  ", 0), ("move  ny", 0), ("move ny ", 1), ("move ny  ny", 1), ("move Ny", 0),
                ("move ny + Ny", 2), ("move . ny", 0), ("move ny .", 1), ("move ;", 0), ("move ny ; ny", 1),
                ("where ", 0), ("where ny + ", 2), ("where ny\n", 0), ("where ny ++ ny", 1), ("where 4", 0),
                ("start ", 0), ("start ny  ", 1), ("start ny + 4", 2), ("start ny\t+", 0),
                ("office ny ", 0), ("office ny  o", 0), ("office ny o ", 1), ("office ny x", 0), ("office ny -", 0),
                ("office a o closed", 2), ("office a o closed 7", 3), ("office a o closed 7 5", 3), ("office a o  ", 1),
                ("office ny o closed 7 7 ", 4), ("office a closed 7 7", 0), ("office a o opened 1 2 closed 3 4", 4),
                ("compare ;", 0), ("compare ; ny", 0), ("compare ny ;", 0), ("compare ny ; ", 0),
                ("compare ny ;  ny", 0), ("compare  ; ny", 0), ("compare ny  ; ny", 1), ("compare  ny ; ny", 0),
                ("compare ny ; ny ", 1), ("compare ny + X ; ny", 2), ("compare ny ; ny + X", 2),
                ("compare ny ; ny  + X", 1), ("compare a b X ; Y", 2), ("compare a b ; Y", 0), ("compare . a ; .", 0),
                ("compare a b c ; . a", 0), ("compare ny ;; ; ny", 1), ("compare ny ; ;; ny", 0)]:
            with self.subTest(command=command):
                with self.assertRaises(ParseError) as caught:
                    self.console.execute(command)
                self.assertEqual(caught.exception.index, index)

    def test_unknown_offices(self):
        for kind in ("move", "where", "start"):
            for words, office in [("a", "a"), ("ny + a b", "a"), ("ny b a", "b"), ("nyc", "nyc"), ("+ + x", "x")]:
                with self.assertRaises(UnknownOffice) as caught:
                    self.console.execute(kind + " " + words)
                self.assertEqual(caught.exception.office, office)
            self.assertRaises(ParseError, self.console.execute, kind + " a + X")

    def test_compare_needs_no_offices(self):
        self.assertEqual(self.console.execute("compare x ; x y"), "never later")

    def test_all_are_day_errors(self):
        for command in (None, "", "move", "move ", "move x"):
            self.assertRaises(DayError, self.console.execute, command)


if __name__ == "__main__":
    unittest.main()

"""The examples that the document prints for the modules that are there, and those of README.md."""

import doctest
import pathlib
import unittest

from daychains.bounds import count_below, index_below, longest_below, nth_below, shortest_above
from daychains.calendars import Calendar
from daychains.console import Console
from daychains.desks import Desk, LimitedCounter
from daychains.errors import ParseError
from daychains.latest import latest_never_later, latest_same, normal_rules
from daychains.logs import day_range, find_clash, known_state
from daychains.meetings import fewest_moves, needed_days, next_common, shows_needed
from daychains.moves import moved, repeated, repeats_to, round_of, stops
from daychains.notation import format_calendar, format_rule, parse_calendar, parse_rule
from daychains.order import counterexample, indices_in, never_later, same_days, shows_later
from daychains.rules import is_office, is_rule, joined, offices_in, reduced, working_days
from daychains.starts import latest_start, start_days


class Examples(unittest.TestCase):
    def test_calendar(self):
        ldn = Calendar("ooooo--", closed=[(7, 7)])
        self.assertEqual([ldn.is_open(4), ldn.is_open(5), ldn.next_open(5), ldn.last_open(7),
                          ldn == Calendar("ooooo--").with_closed(7, 7)], [True, False, 8, 4, True])

    def test_numbered_days(self):
        ny = Calendar("ooooo--")
        self.assertEqual([ny.nth_open(4, 2), ny.nth_open(0, 5 * 10 ** 9), ny.count_open(0, 13)], [8, 7000000000, 10])

    def test_judges_of_rules(self):
        self.assertEqual([is_office("ny"), is_office("+"), is_rule(["ny", "+", "ny"]), is_rule(("ny",))],
                         [True, False, True, False])

    def test_rules(self):
        self.assertEqual([reduced(["ny", "ny", "+", "ldn", "ldn"]), working_days("ny", 2),
                          joined(["ny"], ["ny", "ldn"]), offices_in(["b", "+", "a"])],
                         [["ny", "+", "ldn"], ["ny", "+", "ny", "+", "ny"], ["ny", "ldn"], ["a", "b"]])

    def test_notation_of_calendars(self):
        self.assertEqual(Calendar.read("ooooo-- closed 7 7 opened -3 5"),
                         Calendar("ooooo--", closed=[(7, 7)], opened=[(-3, 5)]))
        for text in ["ooooo-- closed 7", "o closed 7 5"]:
            for function in (Calendar.read, parse_calendar):
                with self.assertRaises(ParseError) as caught:
                    function(text)
                self.assertEqual(caught.exception.index, 3)

    def test_moves(self):
        offices = {"ny": Calendar("ooooo--"), "ldn": Calendar("ooooo--", closed=[(7, 7)])}
        self.assertEqual([moved(offices, ["ny", "+", "ny", "ldn"], 4),
                          list(stops(offices, ["ny", "+", "ny", "ldn"], 4))], [8, [4, 4, 5, 7, 8]])

    def test_repetitions(self):
        offices = {"ny": Calendar("ooooo--")}
        rule = ["ny", "+", "ny"]
        self.assertEqual([repeated(offices, rule, 0, 5 * 10 ** 9), repeats_to(offices, rule, 0, 12),
                          round_of(offices, rule, 0), round_of(offices, ["ny"], 6)], [7000000000, 10, (5, 7), (1, 0)])

    def test_order(self):
        self.assertEqual([never_later(["ny", "+", "ny"], ["ny", "ldn", "+", "ldn", "ny"]),
                          indices_in(["ny", "+", "ny"], ["ny", "ldn", "+", "ldn", "ny"])], [True, [0, 2, 4]])
        self.assertEqual([never_later(["a", "b"], ["b", "a"]), same_days(["a", "a", "+"], ["a", "+"])], [False, True])

    def test_counterexamples(self):
        self.assertEqual([shows_later(["a", "b"], ["b", "a"], counterexample(["a", "b"], ["b", "a"])),
                          counterexample(["a"], ["b", "a"])], [True, None])

    def test_latest(self):
        self.assertEqual([normal_rules([["a"], ["a", "b"], ["b", "a"], ["b"]]),
                          latest_never_later([["a"], ["b"]], [["a", "b"]])], [[["a", "b"], ["b", "a"]], True])
        self.assertEqual(latest_same([["a", "b"], ["b"]], [["a", "b", "b"]]), True)

    def test_bounds(self):
        self.assertEqual([longest_below(["a", "b", "c"], ["b", "c", "a"]),
                          longest_below(["a", "b", "a"], ["a", "c", "a"]),
                          len(shortest_above(["a", "b"], ["b", "a"]))], [["b", "c"], ["a"], 3])

    def test_numbered_rules(self):
        self.assertEqual([count_below(["a", "b", "a"], 2), nth_below(["a", "b", "a"], 2, 1),
                          index_below(["a", "b", "a"], ["b", "a"]), count_below(["a"], 5)], [2, ["b", "a"], 1, 0])

    def test_meetings(self):
        offices = {"a": Calendar("o", closed=[(0, 4)]), "b": Calendar("o", closed=[(2, 6)]),
                   "c": Calendar("o", closed=[(5, 9)])}
        self.assertEqual([next_common(offices, 0), fewest_moves(offices, 0), len(needed_days(offices, 0)),
                          shows_needed(offices, 0, [0, 5]), shows_needed(offices, 0, [0, 3])],
                         [10, ["a", "c"], 2, True, False])

    def test_starts(self):
        offices = {"ny": Calendar("ooooo--")}
        rule = ["ny", "+", "ny"]
        self.assertEqual([latest_start(offices, rule, 7), start_days(offices, rule, 7), start_days(offices, rule, 8),
                          start_days(offices, rule, 5)], [4, (4, 4), (5, 7), None])

    def test_logs(self):
        log = [("ny", 5, 7), ("ny", 3, 3)]
        self.assertEqual([known_state(log, "ny", 6), known_state(log, "ny", 4), day_range(log, ["ny", "+", "ny"], 4),
                          day_range(log, ["ny"], 5)], ["closed", "free", (7, None), (7, 7)])
        self.assertEqual(find_clash([("ny", 5, 7), ("ldn", 6, 6), ("ny", 6, 6)]), (0, 2))

    def test_desks(self):
        desk = Desk(4, ny=Calendar("ooooo--"))
        first = desk.move("ny", "+", "ny")
        desk.close_office("ny", 8, 9)
        self.assertEqual([first, desk.move("+", "ny"), list(desk.days()), len(desk)], [7, 10, [4, 7, 7, 10], 3])
        counter = LimitedCounter(5, limit=3, ny=Calendar("ooooo--"))
        self.assertEqual([counter.move("ny"), counter.told()], [7, ["day 7", "offices 1", "moved 2", "limit 3"]])

    def test_notation(self):
        self.assertEqual([format_rule(["ny", "+", "ny"]), format_rule([]), parse_rule("ny + ldn"),
                          format_calendar("ooooo--", closed=[(7, 7)], opened=[(-3, 5)])],
                         ["ny + ny", ".", ["ny", "+", "ldn"], "ooooo-- closed 7 7 opened -3 5"])

    def test_console(self):
        console = Console()
        answers = [console.execute("office ny ooooo--"), console.execute("day 4"), console.execute("where ny + ny")]
        answers += [console.execute("common"), console.execute("compare ny ; + ny"), console.execute("start ny + ny")]
        self.assertEqual(answers, ["ok", "ok", "7", "4", "never later", "3"])
        with self.assertRaises(ParseError) as caught:
            Console().execute("compare ; ny")
        self.assertEqual(caught.exception.index, 0)

    def test_readme(self):
        readme = pathlib.Path(__file__).resolve().parent.parent / "README.md"
        failed, tried = doctest.testfile(str(readme), module_relative=False)
        self.assertEqual((failed, tried > 0), (0, True))


if __name__ == "__main__":
    unittest.main()

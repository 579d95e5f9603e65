"""[3], [5], [48] to [51]: the console, line by line."""

import unittest

from rerunrein.conditions import Conditions
from rerunrein.console import Console
from rerunrein.orders import Order
from rerunrein.programs import parse_program
from rerunrein.records import read_record
from rerunrein.scripts import steered_lines
from tests.oracle import RESERVED
from tests.raised import raised

# a and b hold a lock for a while; c sends to both, and a takes from both.
LINES = [
    "process a", "set x 1", "set x 0", "take y", "take y", "checkpoint",
    "process b", "set x 1", "send a 5", "set x 0",
    "process c", "input n", "send a n", "receive z b",
]
LOCK = ["hold a x = 1", "write a x = 1", "hold b x=1"]
LONG = "1" * 31


def told(console, *lines):
    """The answers to the lines."""
    return [console.tell(line) for line in lines]


def with_program(*more):
    console = Console()
    told(console, *["add " + line for line in LINES], "program", *more)
    return console


def with_machine(*more):
    return with_program("feed c 7", "begin", *more)


def with_record(*more):
    # All events of a but the last ones, all of b, and two of c.
    return with_machine("run 0,0,0,0,0,0,0,0,0", "keep", *more)


def with_result(*more):
    return with_record(*["rule " + line for line in LOCK], "steer", *more)


def with_replay(*more):
    return with_result("replay", *more)


MAKERS = (Console, with_program, with_machine, with_record, with_result, with_replay)


def shown(console):
    """All that a console shows; what is missing is shown as an error."""
    lines = ["ready", "rules", "needed", "cut", "script", "wait 0", "why 0"]
    lines += [f"{word} {name}" for word in ("status", "variables", "show") for name in "abc"]
    found = []
    for line in lines:
        try:
            found.append(console.tell(line))
        except ValueError as error:
            found.append((type(error).__name__, *vars(error).values()))
    return found


class FormsTest(unittest.TestCase):

    def assert_no_form(self, *lines):
        for line in lines:
            for make in (Console, with_replay):
                console = make()
                before = shown(console)
                self.assertEqual(raised(console.tell, line), ("BadLine", line))
                self.assertEqual(shown(console), before)

    def test_other_words(self):
        self.assert_no_form("", " ", "  ", "Add x", "ADD x", "quit", "help", "record", "waits", "adds x", "-", "1", "a", "process a")

    def test_lines_of_one_word(self):
        for word in (
            "clear", "program", "begin", "ready", "keep", "needed", "useless", "rules", "steer", "replay", "cut", "script",
        ):
            self.assert_no_form(word + " ", " " + word, word + " a", word + " 1", word + " -", word + word, word.upper(), word + "  ")

    def test_lines_with_a_text(self):
        self.assert_no_form("add", "add ", "rule", "rule ", " add x", " rule x", "addx", "rule\tx")

    def test_lines_with_a_name(self):
        for word in ("status", "variables", "show", "go", "do"):
            self.assert_no_form(
                word, word + " ", word + "  a", " " + word + " a", word + " a ", word + " a b c", word + " A", word + " a1", word + " 1",
                word + " abcdefghi", word + " -", word + " a,b", *[f"{word} {name}" for name in RESERVED],
            )
            if word != "do":
                self.assert_no_form(word + " a b", word + " a a")
        self.assert_no_form("do a B", "do a 1", "do a  b", "do a -", "do a b ", *[f"do a {name}" for name in RESERVED])

    def test_lines_with_a_number(self):
        for word in ("unrule", "wait", "why"):
            self.assert_no_form(
                word, word + " ", word + "  0", " " + word + " 0", word + " 0 ", word + " 0 0", word + " a", word + " -", word + " -1",
                word + " +1", word + " 00", word + " 01", word + " -0", word + " " + LONG, word + " 0,1", word + " 1.0", word + " 0,",
            )

    def test_lists(self):
        bad = ["", " ", "1 ", "1,", ",1", ",", "1,,2", "1, 2", "1 2", "-0", "00", "01", "1,01", "+1", "--1", "-,1", "1,-", "x", LONG,
               "-" + LONG, "1,-0", "-01", "- ", "-1-", "1.5"]
        for text in bad:
            self.assert_no_form("feed a " + text, "run " + text, f"recover {text} a", f"recover {text} -")
        self.assert_no_form("run -1", "run 0,-1", "run -" + "9" * 30, "run", "run  0", "run 0 0", " run 0", "run -,-")

    def test_feed(self):
        self.assert_no_form("feed", "feed a", "feed a ", "feed 1", "feed  a 1", "feed a  1", "feed A 1", "feed if 1", "feed a 1 a", "feed - a")

    def test_recover(self):
        self.assert_no_form(
            "recover", "recover 0,0,0", "recover 0,0,0 ", "recover  0,0,0 a", "recover 0,0,0  a", "recover 0,0,0 a ", "recover 0,0,0 a b",
            "recover 0,0,0 a,", "recover 0,0,0 ,a", "recover 0,0,0 a,,b", "recover 0,0,0 A", "recover 0,0,0 a, b", "recover 0,0,0 1",
            "recover 0,0,0 a,if", "recover 0,0,0 a,-", "recover a 0,0,0", "recover 0,0,0 --",
        )

    def test_missing(self):
        lines = {
            "program": ["feed a 1", "feed x -", "begin"],
            "machine": ["ready", "do a", "do a b", "run 0", "run -", "status a", "variables x", "keep"],
            "record": ["show a", "needed", "useless", "recover 0 a", "recover - -", "rule x", "rules", "unrule 0", "steer"],
            "result": ["wait 0", "why 5", "replay", "script"],
            "replay": ["go a", "cut"],
        }
        for at, make in enumerate(MAKERS):
            for what in list(lines)[at:]:
                for line in lines[what]:
                    console = make()
                    before = shown(console)
                    self.assertEqual(raised(console.tell, line), ("Missing", what))
                    self.assertEqual(shown(console), before)

    def test_a_result_without_waits(self):
        console = with_record("rule order a 2 a 1")
        self.assertEqual(console.tell("steer"), "never ring")
        for line in ("wait 0", "why 0", "replay", "script"):
            self.assertEqual(raised(console.tell, line), ("Missing", "result"))
        self.assertEqual(raised(console.tell, "cut"), ("Missing", "replay"))

    def test_keywords_and_returned_texts(self):
        console = Console()
        self.assertEqual(console.tell(line="add process a"), "1")
        for answer in told(with_replay(), "ready", "run -", "status a", "keep", "rules"):
            self.assertIs(type(answer), str)


class ProgramsTest(unittest.TestCase):

    def test_add_and_clear(self):
        console = Console()
        self.assertEqual(told(console, "add process a", "add set x 1", "add ?", "add  ", "add   x "), ["1", "2", "3", "4", "5"])
        self.assertEqual(raised(console.tell, "program"), ("BadProgram", 2, "line"))
        self.assertEqual(told(console, "clear", "clear", "add process b"), ["done", "done", "1"])
        self.assertEqual(console.tell("program"), "b")

    def test_texts_keep_their_spaces(self):
        console = Console()
        told(console, "add process a", "add set x  1 +  2 ")
        self.assertEqual(told(console, "program", "begin", "do a"), ["a", "done", "set x 3"])
        self.assertEqual(told(console, "clear", "add process a", "add  set x 1")[-1], "2")
        self.assertEqual(raised(console.tell, "program"), ("BadProgram", 1, "line"))

    def test_program(self):
        console = with_program()
        self.assertEqual(console.tell("program"), "a b c")
        self.assertEqual(raised(Console().tell, "program"), ("BadProgram", 0, "name"))

    def test_the_program_stays(self):
        console = with_program("clear")
        self.assertEqual(raised(console.tell, "program"), ("BadProgram", 0, "name"))
        self.assertEqual(told(console, "begin", "ready", "add process z", "begin", "ready"), ["done", "a b", "1", "done", "a b"])
        self.assertEqual(told(console, "program", "begin", "ready", "status z"), ["z", "done", "-", "ended"])

    def test_program_removes_the_rest(self):
        for make in MAKERS[1:]:
            console = make()
            console.tell("program")
            for line, what in (("ready", "machine"), ("rules", "record"), ("script", "result"), ("cut", "replay")):
                self.assertEqual(raised(console.tell, line), ("Missing", what))
            self.assertEqual(told(console, "begin", "status c"), ["done", "input"])

    def test_a_program_that_fails_changes_nothing(self):
        console = with_replay()
        before = shown(console)
        console.tell("add ?")
        self.assertEqual(raised(console.tell, "program"), ("BadProgram", 14, "line"))
        self.assertEqual(shown(console), before)
        self.assertEqual(told(console, "begin", "status c"), ["done", "ready"])

    def test_feed(self):
        console = with_program()
        self.assertEqual(console.tell("begin"), "done")
        self.assertEqual(console.tell("status c"), "input")
        self.assertEqual(console.tell("feed c 1,-2,0"), "done")
        self.assertEqual(console.tell("status c"), "input")
        self.assertEqual(told(console, "begin", "do c", "variables c"), ["done", "input n 1", "n=1 z=0"])
        # In place of the earlier ones.
        self.assertEqual(told(console, "feed c " + "-" + "9" * 30, "begin", "do c"), ["done", "done", "input n -" + "9" * 30])
        self.assertEqual(told(console, "feed c -", "begin", "status c"), ["done", "done", "input"])
        self.assertEqual(told(console, "feed a 5", "feed c 6", "begin", "do c"), ["done", "done", "done", "input n 6"])
        for name in ("d", "x", "abcdefgh"):
            self.assertEqual(raised(console.tell, f"feed {name} 1"), ("UnknownProcess", name))

    def test_several_inputs(self):
        console = Console()
        told(console, "add process a", "add input x", "add input y", "program", "feed a 4,-5", "begin")
        self.assertEqual(told(console, "do a", "do a", "variables a", "status a"), ["input x 4", "input y -5", "x=4 y=-5", "ended"])

    def test_begin_keeps_the_rest(self):
        console = with_replay("go a")
        kept = shown(console)[1:7]
        self.assertEqual(console.tell("begin"), "done")
        self.assertEqual(shown(console)[1:7], kept)
        self.assertEqual(told(console, "ready", "variables a"), ["a b c", "x=0 y=0"])

    def test_steps(self):
        console = with_machine()
        self.assertEqual(told(console, "ready", "do c", "do a", "do c", "do a"), ["a b c", "input n 7", "set x 1", "send a 7", "set x 0"])
        self.assertEqual(told(console, "status a", "status b", "status c"), ["ready", "ready", "waiting"])
        self.assertEqual(told(console, "do b", "do b", "do a b", "do a"), ["set x 1", "send a 5", "take y 5 from b", "take y 7 from c"])
        self.assertEqual(told(console, "do a", "status a", "ready", "do b", "status b"), ["checkpoint", "ended", "b", "set x 0", "ended"])
        self.assertEqual(console.tell("ready"), "-")
        self.assertEqual(told(console, "variables a", "variables b"), ["x=0 y=7", "x=0"])

    def test_errors_of_steps(self):
        console = with_machine("do a", "do a")
        before = shown(console)
        for line, error in (
            ("do d", ("UnknownProcess", "d")), ("do d e", ("UnknownProcess", "d")), ("do a", ("NotReady", "a")), ("do a b", ("NotReady", "a")),
            ("do b a", ("BadSender", "a")), ("do c d", ("BadSender", "d")), ("status d", ("UnknownProcess", "d")),
            ("variables d", ("UnknownProcess", "d")),
        ):
            self.assertEqual(raised(console.tell, line), error)
            self.assertEqual(shown(console), before)
        told(console, "do c", "do c")
        self.assertEqual(raised(console.tell, "do a b"), ("BadSender", "b"))
        self.assertEqual(console.tell("do a c"), "take y 7 from c")

    def test_run(self):
        console = with_machine()
        self.assertEqual(told(console, "run -", "run 0", "run 1,0"), ["0", "1", "2"])
        self.assertEqual(told(console, "variables a", "variables b"), ["x=0 y=0", "x=1"])
        # On the same machine, and no more steps than there are.
        self.assertEqual(console.tell("run 0,0,5,1,0,0,7,0,0,0,0,0,0"), "7")
        self.assertEqual(told(console, "run 3", "run -", "ready"), ["0", "0", "-"])

    def test_run_chooses_among_senders(self):
        prepared = ("do a", "do a", "do b", "do b", "do c", "do c")
        # The options are a from b, a from c, and b.
        for choice, expected in ((0, "x=0 y=5"), (1, "x=0 y=7"), (2, "x=0 y=0"), (3, "x=0 y=5"), (10 ** 29, f"x=0 y={(5, 7, 0)[10 ** 29 % 3]}")):
            console = with_machine(*prepared)
            self.assertEqual(told(console, f"run {choice}", "variables a"), ["1", expected])

    def test_no_variables(self):
        console = Console()
        told(console, "add process a", "add checkpoint", "program", "begin")
        self.assertEqual(told(console, "variables a", "do a", "keep", "show a"), ["-", "checkpoint", "a=1", "checkpoint"])


class RecordsTest(unittest.TestCase):

    def test_keep_and_show(self):
        console = with_machine("run 0,0,0")
        self.assertEqual(console.tell("keep"), "a=2 b=1 c=0")
        self.assertEqual(told(console, "show a", "show b", "show c"), ["set x 1; set x 0", "set x 1", "-"])
        console.tell("run 0,0,0,0,0,0")
        self.assertEqual(console.tell("show c"), "-")
        self.assertEqual(console.tell("keep"), "a=4 b=3 c=2")
        self.assertEqual(console.tell("show a"), "set x 1; set x 0; take y 5 from b; take y 7 from c")
        self.assertEqual(console.tell("show c"), "input n 7; send a 7")
        self.assertEqual(raised(console.tell, "show d"), ("UnknownProcess", "d"))

    def test_keep_removes_rules_result_and_replay(self):
        console = with_replay()
        self.assertEqual(console.tell("rules"), "hold a x = 1; write a x = 1; hold b x = 1")
        self.assertEqual(console.tell("keep"), "a=4 b=3 c=2")
        self.assertEqual(console.tell("rules"), "-")
        self.assertEqual(raised(console.tell, "script"), ("Missing", "result"))
        self.assertEqual(raised(console.tell, "cut"), ("Missing", "replay"))
        self.assertEqual(console.tell("steer"), "waits 0")

    def test_needed(self):
        self.assertEqual(with_record().tell("needed"), "a.3")
        self.assertEqual(with_machine("keep").tell("needed"), "-")

    def test_several_needed(self):
        console = Console()
        told(console, *["add " + line for line in ("process a", "take x", "take x", "take x", "process b", "send a 1", "send a 2")])
        told(console, "add process c", "add send a 3", "program", "begin", "run 0,0,0,0,0,0", "keep")
        self.assertEqual(told(console, "show a", "needed"), ["take x 1 from b; take x 2 from b; take x 3 from c", "a.1 a.2"])

    def test_useless(self):
        console = Console()
        lines = ["process p", "receive x q", "checkpoint", "send q 2", "process q", "send p 1", "receive y p"]
        told(console, *["add " + line for line in lines], "program", "begin", "run 0,0,0,0,0", "keep")
        self.assertEqual(console.tell("useless"), "p.2")
        self.assertEqual(with_record().tell("useless"), "-")

    def test_recover(self):
        console = Console()
        lines = ["process a", "checkpoint", "send b 1", "checkpoint", "process b", "receive x a", "checkpoint"]
        told(console, *["add " + line for line in lines], "program", "begin", "run 0,0,0,0,0", "keep")
        for line, answer in (
            ("2,2 a", "1,0"), ("2,2 -", "2,2"), ("3,2 a,b", "3,2"), ("2,1 b,a,b", "1,0"), ("3,1 b", "3,0"), ("0,0 a", "0,0"),
        ):
            self.assertEqual(console.tell("recover " + line), answer)
        for line, error in (
            ("0,1 a", ("BadCut", (0, 1))), ("-1,0 a", ("BadCut", (-1, 0))), ("- a", ("BadCut", ())), ("0 c", ("BadCut", (0,))),
            ("0,0 c", ("UnknownProcess", "c")), ("0,0 a,d,c", ("UnknownProcess", "d")), ("4,0 -", ("BadCut", (4, 0))),
        ):
            self.assertEqual(raised(console.tell, "recover " + line), error)


class SteeringTest(unittest.TestCase):

    def test_rules(self):
        console = with_record()
        self.assertEqual(console.tell("rules"), "-")
        self.assertEqual(told(console, "rule hold a  x=1 ", "rules", "rule order a 1 b 2"), ["done", "hold a x = 1", "done"])
        self.assertEqual(console.tell("rules"), "hold a x = 1; order a 1 b 2")
        for line, reason in (
            ("x", "line"), (" hold b x = 1", "line"), ("hold b x = 1 = 1", "line"), ("hold d x = 1", "process"), ("order a 1 a 1", "event"),
            ("either a x = 1", "kind"), ("hold a x = 2", "twice"), (" ", "line"),
        ):
            self.assertEqual(raised(console.tell, "rule " + line), ("BadConditions", 2, reason))
            self.assertEqual(console.tell("rules"), "hold a x = 1; order a 1 b 2")

    def test_unrule(self):
        console = with_record("rule order a 1 b 1", "rule order a 1 b 2", "rule order a 1 b 3")
        for number in ("3", "4", "9" * 30):
            self.assertEqual(raised(console.tell, "unrule " + number), ("BadLine", "unrule " + number))
        self.assertEqual(told(console, "unrule 1", "rules"), ["done", "order a 1 b 1; order a 1 b 3"])
        self.assertEqual(raised(console.tell, "unrule 2"), ("BadLine", "unrule 2"))
        self.assertEqual(told(console, "unrule 1", "unrule 0", "rules"), ["done", "done", "-"])
        self.assertEqual(raised(console.tell, "unrule 0"), ("BadLine", "unrule 0"))
        # Either lines fit again when no lock line is left.
        told(console, "rule hold a x = 1", "unrule 0", "rule either a x = 1")
        self.assertEqual(console.tell("rules"), "either a x = 1")

    def test_changes_of_the_rules(self):
        for line in ("rule order a 1 b 3", "rule bound a b 3", "unrule 0", "unrule 2"):
            console = with_replay("go a")
            self.assertEqual(console.tell(line), "done")
            for what, gone in (("result", ("wait 0", "why 0", "replay", "script")), ("replay", ("go a", "cut"))):
                for other in gone:
                    self.assertEqual(raised(console.tell, other), ("Missing", what))
        for line in ("rule ?", "unrule 3", "rule hold a x = 1", "rule either a x = 1", "unrule x"):
            console = with_replay("go a")
            before = shown(console)
            raised(console.tell, line)
            self.assertEqual(shown(console), before)

    def test_steer(self):
        console = with_result()
        self.assertEqual(console.tell("steer"), "waits 1")
        self.assertIn(told(console, "wait 0", "why 0"), (["a.2 b.1", "1,1,0"], ["b.3 a.1", "1,1,0"]))
        for line in ("wait 1", "why 1", "wait " + "9" * 30):
            self.assertEqual(raised(console.tell, line), ("BadLine", line))
        told(console, "rule order b 3 a 1", "steer")
        self.assertEqual(told(console, "wait 0", "why 0"), ["b.3 a.1", "1,0,0"])

    def test_kinds_of_evidence(self):
        for rules, kind in (
            (["order a 2 b 1", "order b 2 a 1"], "ring"), (["hold a x = 0", "write a 0 = 0", "hold b x = 0"], "sections"),
            (["either a x = 1"], "overlap"), (["bound c a 0"], "ring"),
        ):
            console = with_record(*["rule " + rule for rule in rules])
            self.assertEqual(console.tell("steer"), "never " + kind)
        console = with_machine("do c", "do c", "keep", "rule bound c a 0")
        self.assertEqual(console.tell("steer"), "never end")

    def test_no_waits(self):
        console = with_record()
        self.assertEqual(told(console, "steer", "replay", "cut"), ["waits 0", "done", "0,0,0"])
        self.assertEqual(raised(console.tell, "wait 0"), ("BadLine", "wait 0"))
        self.assertEqual(raised(console.tell, "why 0"), ("BadLine", "why 0"))
        self.assertEqual(console.tell("script").split("; ")[:3], ["process a", "set x 1", "set x 0"])

    def test_steer_again(self):
        console = with_replay("go a")
        self.assertEqual(console.tell("steer"), "waits 1")
        self.assertEqual(raised(console.tell, "cut"), ("Missing", "replay"))
        self.assertEqual(told(console, "replay", "cut"), ["done", "0,0,0"])

    def test_replay(self):
        console = with_result("unrule 2", "rule hold b x = 1", "rule order a 2 b 1", "steer")
        self.assertEqual(told(console, "wait 0", "replay", "cut"), ["a.2 b.1", "done", "0,0,0"])
        before = shown(console)
        for line, error in (("go b", ("NotReady", "b")), ("go d", ("UnknownProcess", "d"))):
            self.assertEqual(raised(console.tell, line), error)
            self.assertEqual(shown(console), before)
        self.assertEqual(told(console, "go a", "go c", "go a", "cut"), ["set x 1", "input n 7", "set x 0", "2,0,1"])
        self.assertEqual(raised(console.tell, "go a"), ("NotReady", "a"))
        self.assertEqual(told(console, "go b", "go b", "go a", "cut"), ["set x 1", "send a 5", "take y 5 from b", "3,2,1"])
        self.assertEqual(told(console, "replay", "cut"), ["done", "0,0,0"])

    def test_script(self):
        console = with_result("rule order a 2 b 1", "steer")
        self.assertEqual(console.tell("script"), "; ".join([
            "process a", "set x 1", "set x 0", "send d 0", "receive y b", "receive y c",
            "process b", "receive z d", "set x 1", "send a 5", "set x 0",
            "process c", "set n 7", "send a 7",
            "process d", "receive z a", "send b z",
        ]))

    def test_lines_that_only_tell_change_nothing(self):
        console = with_replay("go a")
        before = shown(console)
        told(console, "ready", "status a", "variables a", "show a", "needed", "useless", "recover 0,0,0 a", "rules", "wait 0", "why 0")
        told(console, "cut", "script", "run -", "add x", "clear", "feed a 1")
        self.assertEqual(shown(console), before)


class SessionTest(unittest.TestCase):

    def test_a_whole_session(self):
        console = Console()
        self.assertEqual(told(console, *["add " + line for line in LINES]), [str(number) for number in range(1, 15)])
        self.assertEqual(told(console, "program", "feed c 7", "begin", "run 0,0,0,0,0,0,0,0,0", "keep"), ["a b c", "done", "done", "9", "a=4 b=3 c=2"])
        self.assertEqual(told(console, "needed", "useless", "recover 4,3,2 a"), ["a.3", "-", "0,3,2"])
        self.assertEqual(told(console, *["rule " + line for line in LOCK]), ["done"] * 3)
        self.assertEqual(told(console, "steer", "replay"), ["waits 1", "done"])
        record = read_record([
            "process a", *console.tell("show a").split("; "), "process b", *console.tell("show b").split("; "),
            "process c", *console.tell("show c").split("; "),
        ])
        one, other = [(event[:1], int(event[2:])) for event in console.tell("wait 0").split(" ")]
        conditions = Conditions(record, console.tell("rules").split("; "))
        order = Order(record, [(one, other)])
        for step in range(9):
            cut = tuple(map(int, console.tell("cut").split(",")))
            self.assertTrue(order.is_cut(cut))
            self.assertIsNone(conditions.broken(cut))
            for name in "bca":
                try:
                    console.tell(f"go {name}")
                    break
                except ValueError as error:
                    self.assertEqual((type(error).__name__, error.name), ("NotReady", name))
        self.assertEqual(console.tell("cut"), "4,3,2")
        lines = console.tell("script").split("; ")
        self.assertEqual(lines, steered_lines(record, [(one, other)]))
        # The script is a program of its own.
        told(console, "clear", *["add " + line for line in lines])
        self.assertEqual(console.tell("program"), " ".join(parse_program(lines).names()))
        console.tell("begin")
        console.tell("run " + ",".join(["1"] * 50))
        self.assertEqual(told(console, "ready", "status a", "variables a"), ["-", "ended", "x=0 y=7"])


if __name__ == "__main__":
    unittest.main()

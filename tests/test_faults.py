"""[17], [19]: tests, faults, and processes that have ended or stopped."""

import unittest

from rerunrein.machine import Machine
from rerunrein.programs import parse_program
from tests.raised import raised

LARGEST = "9" * 30


def machine_of(*lines, inputs=()):
    return Machine(parse_program(lines), inputs)


def ifs(count):
    """Lines of so many tests in a row without an event."""
    return ["if x = 0", "end"] * count


class FaultsTest(unittest.TestCase):

    def assert_stopped(self, machine, name, fault):
        self.assertEqual(machine.status(name), fault)
        self.assertNotIn(name, machine.ready())
        self.assertEqual(machine.senders(name), [])
        self.assertEqual(raised(machine.step, name), ("NotReady", name))
        self.assertEqual(machine.status(name), fault)

    def test_a_failing_set_or_send_at_the_beginning(self):
        for line, fault in (
            ("set x 1 // 0", "division"), ("set x 1 mod x", "division"), ("send b 0 mod 0", "division"),
            (f"set x {LARGEST} + 1", "overflow"), (f"send b -{LARGEST} - 1", "overflow"),
            (f"send b {LARGEST} * 2", "overflow"), (f"set x 1 // 0 + {LARGEST} * 2", "division"),
            (f"set x {LARGEST} * 2 + 1 // 0", "overflow"), ("input x", "input"),
        ):
            with self.subTest(line):
                machine = machine_of("process a", line, "process b", "take y")
                self.assert_stopped(machine, "a", fault)
                self.assertEqual(machine.status("b"), "waiting")
                self.assertEqual(machine.channel("a", "b"), [])
                self.assertEqual(machine.record().events("a"), ())

    def test_a_process_stops_when_it_comes_to_stand_there(self):
        for line, fault in (
            ("set x 1 // y", "division"), ("send b 7 mod y", "division"), (f"set x {LARGEST} + y + 1", "overflow"),
            (f"send b {LARGEST} + 1", "overflow"), ("input z", "input"),
        ):
            with self.subTest(line):
                machine = machine_of("process a", "set x 5", line, "set x 9", "process b")
                self.assertEqual(machine.status("a"), "ready")
                self.assertEqual(machine.step("a"), ("set", "x", 5))
                self.assert_stopped(machine, "a", fault)
                self.assertIn(("x", 5), machine.variables("a"))
                self.assertEqual(machine.record().events("a"), (("set", "x", 5),))

    def test_the_greatest_integers_do_not_overflow(self):
        machine = machine_of("process a", f"set x {LARGEST}", "set y -x", "send b y - 0", "process b", "take z")
        self.assertEqual([machine.step("a") for step in range(3)], [
            ("set", "x", int(LARGEST)), ("set", "y", -int(LARGEST)), ("send", "b", -int(LARGEST)),
        ])
        self.assertEqual(machine.step("b"), ("take", "a", "z", -int(LARGEST)))
        self.assertEqual(machine.record().events("b"), (("take", "a", "z", -int(LARGEST)),))

    def test_failing_tests(self):
        for condition, fault in (
            ("1 // x = 0", "division"), (f"{LARGEST} + 1 > 0", "overflow"), ("x = 1 and 1 mod x = 0", "division"),
        ):
            for word in ("if", "while"):
                with self.subTest(condition, word=word):
                    machine = machine_of("process a", f"{word} {condition}", "checkpoint", "end", "process b", "set x 1")
                    self.assert_stopped(machine, "a", fault)
                    self.assertEqual(machine.ready(), ["b"])
                    machine = machine_of("process a", "set y 1", f"{word} {condition}", "end", "checkpoint")
                    machine.step("a")
                    self.assert_stopped(machine, "a", fault)

    def test_inputs(self):
        machine = machine_of(
            "process a", "input x", "input x", "input y", "process b", "input x", inputs=[("a", [4, -5])],
        )
        self.assert_stopped(machine, "b", "input")
        self.assertEqual(machine.step("a"), ("input", "x", 4))
        self.assertEqual(machine.variables("a"), [("x", 4), ("y", 0)])
        self.assertEqual(machine.step("a"), ("input", "x", -5))
        self.assert_stopped(machine, "a", "input")
        self.assertEqual(machine.variables("a"), [("x", -5), ("y", 0)])

    def test_one_hundred_tests_by_ifs(self):
        machine = machine_of("process a", *ifs(100), "checkpoint")
        self.assertEqual(machine.status("a"), "ready")
        self.assertEqual(machine_of("process a", *ifs(100)).status("a"), "ended")
        self.assert_stopped(machine_of("process a", *ifs(101), "checkpoint"), "a", "loop")
        self.assert_stopped(machine_of("process a", *ifs(101)), "a", "loop")

    def test_one_hundred_tests_by_a_while(self):
        self.assert_stopped(machine_of("process a", "while 0 = 0", "end", "checkpoint"), "a", "loop")
        self.assert_stopped(machine_of("process a", *ifs(99), "while x = 0", "end"), "a", "loop")
        # The while makes a test ahead of each event and one that does not hold.
        machine = machine_of("process a", "while x < 3", "set x x + 1", "end", *ifs(99), "checkpoint")
        for step in range(3):
            self.assertEqual(machine.status("a"), "ready")
            machine.step("a")
        self.assertEqual(machine.step("a"), ("checkpoint",))
        machine = machine_of("process a", "while x < 3", "set x x + 1", "end", *["if 0 = 0", "end"] * 100, "checkpoint")
        for step in range(3):
            machine.step("a")
        self.assert_stopped(machine, "a", "loop")

    def test_tests_inside_one_another(self):
        # A while that holds, and an if in it: two tests each time round.
        self.assert_stopped(machine_of("process a", "while 0 = 0", "if 1 = 1", "else", "set x 1", "end", "end"), "a", "loop")
        deep = ["if x = 0"] * 20 + ["end"] * 20
        self.assertEqual(machine_of("process a", *deep * 5, "checkpoint").status("a"), "ready")
        self.assert_stopped(machine_of("process a", *deep * 5, "if 1 = 2", "end", "checkpoint"), "a", "loop")
        # Tests that do not hold count as well; those in the parts that are left out do not.
        self.assertEqual(machine_of("process a", *["if 1 = 2", "if 1 = 1", "end", "end"] * 99).status("a"), "ended")
        self.assert_stopped(machine_of("process a", *["if 1 = 2", "end"] * 101), "a", "loop")

    def test_test_101_would_fail_with_another_fault(self):
        for condition in ("1 // 0 = 1", f"{LARGEST} + 1 = 0"):
            with self.subTest(condition):
                machine = machine_of("process a", *ifs(100), f"if {condition}", "end")
                self.assert_stopped(machine, "a", "loop")
                machine = machine_of("process a", *ifs(100), f"while {condition}", "end")
                self.assert_stopped(machine, "a", "loop")
                machine = machine_of("process a", *ifs(99), f"if {condition}", "end")
                self.assert_stopped(machine, "a", "division" if "//" in condition else "overflow")

    def test_a_failing_statement_behind_one_hundred_tests(self):
        self.assert_stopped(machine_of("process a", *ifs(100), "set x 1 // 0"), "a", "division")
        self.assert_stopped(machine_of("process a", *ifs(100), "input x"), "a", "input")
        self.assert_stopped(machine_of("process a", *ifs(101), "set x 1 // 0"), "a", "loop")

    def test_tests_with_events_between(self):
        for event in ("checkpoint", "set y 1", "send b 1", "input y"):
            with self.subTest(event):
                lines = ["process a", *ifs(90), event, *ifs(100), event, "process b"]
                machine = machine_of(*lines, inputs=[("a", [1, 2])])
                machine.step("a")
                machine.step("a")
                self.assertEqual(machine.status("a"), "ended")
                lines = ["process a", *ifs(90), event, *ifs(101), event, "process b"]
                machine = machine_of(*lines, inputs=[("a", [1, 2])])
                machine.step("a")
                self.assert_stopped(machine, "a", "loop")
        machine = machine_of(
            "process a", *ifs(60), "receive y b", *ifs(60), "take y", *ifs(60), "process b", "send a 1", "send a 2",
        )
        for name in "bbaa":
            machine.step(name)
        self.assertEqual(machine.status("a"), "ended")

    def test_a_loop_that_goes_on_for_ever(self):
        machine = machine_of("process a", "while 0 = 0", "set x x + 1", "end")
        for number in range(1, 500):
            self.assertEqual(machine.step("a"), ("set", "x", number))
        self.assertEqual(machine.status("a"), "ready")

    def test_ended(self):
        for lines in ([], ["if 1 = 2", "set x 1", "end"], ["while 1 = 2", "set x 1", "end"], ["if 1 = 1", "else", "take x", "end"]):
            with self.subTest(lines):
                machine = machine_of("process a", *lines)
                self.assert_stopped(machine, "a", "ended")
        machine = machine_of("process a", "checkpoint")
        machine.step("a")
        self.assert_stopped(machine, "a", "ended")

    def test_messages_of_processes_that_ended_or_stopped_stay(self):
        for last, fault in (("set x 1 // 0", "division"), ("input x", "input"), ("while 1 = 1", "loop"), (None, "ended")):
            with self.subTest(fault):
                lines = ["process a", "send b 1", "send b 2"] + ([last] if last else [])
                lines += ["end"] if fault == "loop" else []
                machine = machine_of(*lines, "process b", "send a 8", "take x", "send a 9", "receive y a", "checkpoint")
                machine.step("a")
                machine.step("a")
                self.assert_stopped(machine, "a", fault)
                self.assertEqual(machine.channel("a", "b"), [1, 2])
                machine.step("b")
                self.assertEqual(machine.channel("b", "a"), [8])
                self.assertEqual(machine.senders("b"), ["a"])
                self.assertEqual(machine.step("b"), ("take", "a", "x", 1))
                machine.step("b")
                self.assertEqual(machine.step("b"), ("receive", "a", "y", 2))
                self.assertEqual(machine.channel("b", "a"), [8, 9])
                self.assertEqual(machine.channel("a", "b"), [])
                self.assert_stopped(machine, "a", fault)
                self.assertEqual(machine.ready(), ["b"])
                machine.step("b")
                self.assertEqual(machine.ready(), [])
                self.assertEqual(machine.channel("b", "a"), [8, 9])


if __name__ == "__main__":
    unittest.main()

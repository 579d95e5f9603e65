"""[3], [5], [17] to [21]: machines and runs."""

import unittest

from rerunrein.machine import Machine, run
from rerunrein.programs import parse_program
from rerunrein.records import Record
from tests.raised import raised

MEETING = [
    "process a", "take x", "take y", "receive z d", "take w",
    "process b", "send a 1", "send a 2",
    "process c", "send a 3", "take a", "checkpoint",
    "process d", "send a 4", "send c 5",
]
FORMS = [
    "process a", "set x 2", "send b x + 1", "receive y b", "take z", "input n", "checkpoint",
    "process b", "receive x a", "send a x * 2", "send a 9",
]


def machine_of(*lines, inputs=()):
    return Machine(parse_program(lines), inputs)


def shown(machine):
    """All that a machine shows."""
    names = machine.program.names()
    return (
        machine.ready(),
        [machine.status(name) for name in names],
        [machine.senders(name) for name in names],
        [machine.variables(name) for name in names],
        [machine.channel(one, other) for one in names for other in names],
        [machine.record().events(name) for name in names],
    )


def meeting():
    """A machine in which a can take from b, c and d."""
    machine = machine_of(*MEETING)
    for name in "bbcdd":
        machine.step(name)
    return machine


class MachineTest(unittest.TestCase):

    def test_each_kind_of_event(self):
        machine = machine_of(*FORMS, inputs=[("a", [7])])
        self.assertEqual(machine.step("a"), ("set", "x", 2))
        self.assertEqual(machine.step("a"), ("send", "b", 3))
        self.assertEqual(machine.status("a"), "waiting")
        self.assertEqual(machine.step("b"), ("receive", "a", "x", 3))
        self.assertEqual(machine.step("b"), ("send", "a", 6))
        self.assertEqual(machine.step("b"), ("send", "a", 9))
        self.assertEqual(machine.step("a"), ("receive", "b", "y", 6))
        self.assertEqual(machine.step("a"), ("take", "b", "z", 9))
        self.assertEqual(machine.step("a"), ("input", "n", 7))
        self.assertEqual(machine.step("a"), ("checkpoint",))
        self.assertEqual([machine.status("a"), machine.status("b")], ["ended", "ended"])
        self.assertEqual(machine.variables("a"), [("n", 7), ("x", 2), ("y", 6), ("z", 9)])
        self.assertEqual(machine.variables("b"), [("x", 3)])
        self.assertEqual(machine.record(), Record([
            ("a", [
                ("set", "x", 2), ("send", "b", 3), ("receive", "b", "y", 6), ("take", "b", "z", 9), ("input", "n", 7),
                ("checkpoint",),
            ]),
            ("b", [("receive", "a", "x", 3), ("send", "a", 6), ("send", "a", 9)]),
        ]))

    def test_blocks(self):
        machine = machine_of(
            "process a", "while x < 2", "set x x + 1", "if x = 1", "set y 10", "else", "set y 20", "end", "end",
            "if x = 5", "else", "checkpoint", "end", "set z 1",
        )
        self.assertEqual([machine.step("a") for step in range(6)], [
            ("set", "x", 1), ("set", "y", 10), ("set", "x", 2), ("set", "y", 20), ("checkpoint",), ("set", "z", 1),
        ])
        self.assertEqual(machine.status("a"), "ended")

    def test_the_state_at_each_step(self):
        machine = machine_of("process a", "send b 1", "send b 2", "process b", "receive x a", "take x")
        self.assertEqual(shown(machine)[:3], (["a"], ["ready", "waiting"], [[], []]))
        machine.step("a")
        self.assertEqual(shown(machine)[:3], (["a", "b"], ["ready", "ready"], [[], ["a"]]))
        self.assertEqual(machine.channel("a", "b"), [1])
        machine.step("a")
        self.assertEqual(shown(machine)[:3], (["b"], ["ended", "ready"], [[], ["a"]]))
        self.assertEqual(machine.channel("a", "b"), [1, 2])
        self.assertEqual(machine.step("b"), ("receive", "a", "x", 1))
        self.assertEqual(shown(machine)[:3], (["b"], ["ended", "ready"], [[], ["a"]]))
        self.assertEqual(machine.channel("a", "b"), [2])
        self.assertEqual(machine.step("b"), ("take", "a", "x", 2))
        self.assertEqual(shown(machine)[:3], ([], ["ended", "ended"], [[], []]))
        self.assertEqual(machine.channel("a", "b"), [])

    def test_the_order_of_the_program(self):
        machine = machine_of("process z", "checkpoint", "process m", "take x", "process a", "send m 1", "process k", "send m 2")
        self.assertEqual(machine.ready(), ["z", "a", "k"])
        machine.step("k")
        machine.step("a")
        self.assertEqual(machine.ready(), ["z", "m"])
        self.assertEqual(machine.senders("m"), ["a", "k"])
        self.assertEqual(machine.record().names(), ("z", "m", "a", "k"))

    def test_a_take_of_several_senders(self):
        machine = meeting()
        self.assertEqual(machine.senders("a"), ["b", "c", "d"])
        self.assertEqual(machine.step("a"), ("take", "b", "x", 1))
        self.assertEqual(machine.channel("b", "a"), [2])
        machine = meeting()
        self.assertEqual(machine.step("a", sender="c"), ("take", "c", "x", 3))
        self.assertEqual([machine.channel(name, "a") for name in "bcd"], [[1, 2], [], [4]])
        self.assertEqual(machine.senders("a"), ["b", "d"])
        self.assertEqual(raised(machine.step, "a", sender="c"), ("BadSender", "c"))
        self.assertEqual(machine.step("a", sender="b"), ("take", "b", "y", 1))
        self.assertEqual(machine.senders("a"), ["d"])
        self.assertEqual(machine.step("a"), ("receive", "d", "z", 4))
        self.assertEqual(machine.step("a"), ("take", "b", "w", 2))
        self.assertEqual(machine.variables("a"), [("w", 2), ("x", 3), ("y", 1), ("z", 4)])

    def test_a_receive_accepts_one_sender_only(self):
        machine = machine_of(
            "process a", "receive x c", "process b", "send a 1", "process c", "send a 2", "send a 3",
        )
        machine.step("b")
        self.assertEqual([machine.status("a"), machine.senders("a")], ["waiting", []])
        self.assertEqual(raised(machine.step, "a", sender="b"), ("NotReady", "a"))
        machine.step("c")
        machine.step("c")
        self.assertEqual([machine.status("a"), machine.senders("a")], ["ready", ["c"]])
        self.assertEqual(raised(machine.step, "a", sender="b"), ("BadSender", "b"))
        self.assertEqual(raised(machine.step, "a", sender="a"), ("BadSender", "a"))
        twin = machine.copy()
        self.assertEqual(machine.step("a"), ("receive", "c", "x", 2))
        self.assertEqual(twin.step("a", sender="c"), ("receive", "c", "x", 2))
        self.assertEqual(machine.channel("b", "a"), [1])
        self.assertEqual(machine.channel("c", "a"), [3])

    def test_a_sender_where_nothing_is_received(self):
        for line in ("set x 1", "send b 1", "input x", "checkpoint"):
            with self.subTest(line):
                machine = machine_of("process a", line, "process b", "send a 5", inputs=[("a", [1])])
                machine.step("b")
                before = shown(machine)
                self.assertEqual(machine.senders("a"), [])
                for sender in ("b", "a", "other", ""):
                    self.assertEqual(raised(machine.step, "a", sender=sender), ("BadSender", sender))
                self.assertEqual(shown(machine), before)
                machine.step("a", sender=None)
                self.assertEqual(machine.status("a"), "ended")

    def test_unknown_processes(self):
        machine = machine_of("process a", "set x 1", "process b", "take x")
        before = shown(machine)
        for name in ("c", "", "x", "A", "process"):
            with self.subTest(name):
                for method in (machine.status, machine.senders, machine.variables, machine.step):
                    self.assertEqual(raised(method, name), ("UnknownProcess", name))
                self.assertEqual(raised(machine.channel, name, "a"), ("UnknownProcess", name))
                self.assertEqual(raised(machine.channel, "a", name), ("UnknownProcess", name))
                self.assertEqual(raised(machine.channel, name, name), ("UnknownProcess", name))
        self.assertEqual(shown(machine), before)

    def test_two_errors_at_once(self):
        machine = machine_of("process a", "set x 1", "process b", "take x")
        self.assertEqual(raised(machine.channel, "c", "d"), ("UnknownProcess", "c"))
        self.assertEqual(raised(machine.step, "c", sender="d"), ("UnknownProcess", "c"))
        self.assertEqual(raised(machine.step, "b", sender="a"), ("NotReady", "b"))
        self.assertEqual(raised(machine.step, "b", sender="other"), ("NotReady", "b"))

    def test_refused_calls_change_nothing(self):
        machine = meeting()
        before = shown(machine)
        for name, sender in (("a", "a"), ("a", "other"), ("b", None), ("b", "a"), ("other", None), ("c", "a")):
            raised(machine.step, name, sender=sender)
            self.assertEqual(shown(machine), before)

    def test_a_process_to_itself(self):
        machine = meeting()
        for name in "abcd":
            self.assertEqual(machine.channel(name, name), [])
        machine.channel("a", "a").append(5)
        self.assertEqual(machine.channel("a", "a"), [])
        self.assertEqual(machine.senders("a"), ["b", "c", "d"])

    def test_variables(self):
        machine = machine_of(
            "process a", "set z y + 1", "if p = 1 or -(q) < r mod 3", "send b s // (t - 1)", "end", "while not [u = 0 and v = 1]",
            "end", "take aa", "receive bb b", "input cc", "if 1 = 1", "else", "set dd ee", "end",
            "process b", "set a b", "process c", "send a 1",
        )
        self.assertEqual(machine.variables("a"), [
            (name, 0) for name in ["aa", "bb", "cc", "dd", "ee", "p", "q", "r", "s", "t", "u", "v", "y", "z"]
        ])
        # These have the names of processes.
        self.assertEqual(machine.variables("b"), [("a", 0), ("b", 0)])
        self.assertEqual(machine.variables("c"), [])
        machine.step("a")
        self.assertEqual(machine.variables("a")[-2:], [("y", 0), ("z", 1)])

    def test_variables_are_in_ascending_order(self):
        machine = machine_of("process q", "set b 1", "set aa 2", "set ab 3", "set a 4", "set c 5")
        for step in range(5):
            machine.step("q")
        self.assertEqual(machine.variables("q"), [("a", 4), ("aa", 2), ("ab", 3), ("b", 1), ("c", 5)])

    def test_variables_with_names_of_processes(self):
        machine = machine_of("process a", "set b 5", "send b b", "receive a b", "process b", "receive a a", "send a a + 1")
        for name in "aabba":
            machine.step(name)
        self.assertEqual(machine.variables("a"), [("a", 6), ("b", 5)])
        self.assertEqual(machine.variables("b"), [("a", 5)])

    def test_records_so_far(self):
        machine = machine_of(*FORMS, inputs=[("a", [7])])
        first = machine.record()
        self.assertEqual(first, Record([("a", []), ("b", [])]))
        machine.step("a")
        second = machine.record()
        machine.step("a")
        self.assertEqual(first, Record([("a", []), ("b", [])]))
        self.assertEqual(second, Record([("a", [("set", "x", 2)]), ("b", [])]))
        self.assertEqual(machine.record(), Record([("a", [("set", "x", 2), ("send", "b", 3)]), ("b", [])]))

    def test_copies(self):
        machine = meeting()
        twin = machine.copy()
        self.assertIsInstance(twin, Machine)
        self.assertEqual(shown(twin), shown(machine))
        before = shown(machine)
        twin.step("a", sender="d")
        twin.step("c")
        self.assertEqual(shown(machine), before)
        after = shown(twin)
        machine.step("a", sender="b")
        machine.step("a", sender="b")
        self.assertEqual(shown(twin), after)
        third = machine.copy().copy()
        self.assertEqual(shown(third), shown(machine))

    def test_copies_have_their_own_inputs(self):
        machine = machine_of("process a", "input x", "input x", "input x", inputs=[("a", [1, 2, 3])])
        machine.step("a")
        twin = machine.copy()
        self.assertEqual(twin.step("a"), ("input", "x", 2))
        self.assertEqual(machine.step("a"), ("input", "x", 2))
        self.assertEqual(machine.step("a"), ("input", "x", 3))
        self.assertEqual(twin.step("a"), ("input", "x", 3))

    def test_copies_of_processes_that_stopped(self):
        machine = machine_of("process a", "set x 1", "set x 1 // (x - 1)", "process b", "take x")
        machine.step("a")
        twin = machine.copy()
        self.assertEqual([twin.status("a"), twin.status("b")], ["division", "waiting"])
        self.assertEqual(raised(twin.step, "a"), ("NotReady", "a"))

    def test_machines_are_compared_by_identity(self):
        machine = machine_of(*FORMS)
        self.assertTrue(machine == machine)
        self.assertFalse(machine == machine_of(*FORMS))
        self.assertFalse(machine == machine.copy())
        self.assertTrue(machine != machine.copy())
        self.assertEqual(len({machine, machine.copy()}), 2)

    def test_what_is_returned_belongs_to_the_caller(self):
        machine = meeting()
        before = shown(machine)
        for result in (machine.ready(), machine.senders("a"), machine.variables("a"), machine.channel("b", "a")):
            self.assertIs(type(result), list)
            result.clear()
        machine.senders("b").append("a")
        self.assertEqual(shown(machine), before)

    def test_what_was_passed_is_changed_afterwards(self):
        lines = ["process a", "input x", "input x", "process b", "input y"]
        numbers = [1, 2]
        pair = ["a", numbers]
        inputs = [pair, ("b", (3,))]
        machine = Machine(parse_program(lines), inputs)
        self.assertEqual(inputs, [["a", [1, 2]], ("b", (3,))])
        numbers[1] = 9
        numbers.append(4)
        pair[0] = "b"
        inputs.clear()
        lines.clear()
        self.assertEqual([machine.step("a"), machine.step("a")], [("input", "x", 1), ("input", "x", 2)])
        self.assertEqual(machine.step("b"), ("input", "y", 3))

    def test_steps_do_not_change_what_was_passed(self):
        inputs = [["a", [1, 2]]]
        machine = machine_of("process a", "input x", "input x", inputs=inputs)
        machine.step("a")
        machine.step("a")
        self.assertEqual(inputs, [["a", [1, 2]]])

    def test_keywords(self):
        program = parse_program(MEETING)
        machine = Machine(inputs=(), program=program)
        self.assertEqual(machine.step(name="b", sender=None), ("send", "a", 1))
        self.assertEqual(machine.channel(receiver="a", sender="b"), [1])
        self.assertEqual(machine.status(name="a"), "ready")
        self.assertEqual(machine.senders(name="a"), ["b"])
        self.assertEqual(machine.variables(name="b"), [])
        with self.assertRaises(TypeError):
            machine.step("a", "b")
        self.assertEqual(run(choices=[0], inputs=[], program=program).ready(), ["a", "b", "c", "d"])


class InputsTest(unittest.TestCase):

    LINES = ["process a", "input x", "process b", "input x", "process c"]

    def test_lists_and_tuples(self):
        for inputs in (
            [("a", [1, 2]), ("b", [3])], (("a", (1, 2)), ("b", (3,))), [["a", [1, 2]], ["b", [3]]],
            (["b", (3,)], ["a", [1, 2]]), [("c", []), ("b", [3]), ("a", (1,))],
        ):
            with self.subTest(inputs):
                machine = machine_of(*self.LINES, inputs=inputs)
                self.assertEqual([machine.step("a"), machine.step("b")], [("input", "x", 1), ("input", "x", 3)])

    def test_processes_without_inputs(self):
        for inputs in ((), [], [("c", [1])], [("a", []), ("b", ())]):
            with self.subTest(inputs):
                machine = machine_of(*self.LINES, inputs=inputs)
                self.assertEqual([machine.status(name) for name in "abc"], ["input", "input", "ended"])

    def test_bad_inputs(self):
        program = parse_program(self.LINES)
        for inputs, index in (
            ([("d", [])], 0), ([("a", []), ("d", [1])], 1), ([("a", [1]), ("a", [1])], 1), ([("x", [])], 0),
            ([("a", []), ["b", []], ("c", []), ["b", [1]]], 3), ([("b", []), ("", []), ("b", [])], 1),
            ([("a", []), ("a", []), ("d", [])], 1), ([("a", []), ("d", []), ("a", [])], 1), ([("A", [])], 0),
        ):
            with self.subTest(inputs):
                self.assertEqual(raised(Machine, program, inputs), ("BadInputs", index))
                self.assertEqual(raised(Machine, program, tuple(inputs)), ("BadInputs", index))
                self.assertEqual(raised(run, program, inputs, [0, 0]), ("BadInputs", index))
                self.assertEqual(raised(run, program, inputs, []), ("BadInputs", index))


class RunTest(unittest.TestCase):

    PAIR = ["process a", "set x 1", "set x 2", "process b", "set y 1", "process c", "checkpoint"]

    def events(self, choices, lines=None):
        record = run(parse_program(lines or self.PAIR), (), choices).record()
        return [len(record.events(name)) for name in record.names()]

    def test_choices(self):
        self.assertEqual(self.events([]), [0, 0, 0])
        self.assertEqual(self.events([0]), [1, 0, 0])
        self.assertEqual(self.events([1]), [0, 1, 0])
        self.assertEqual(self.events([2]), [0, 0, 1])
        # Behind the step of b the options are a and c.
        self.assertEqual(self.events([1, 1]), [0, 1, 1])
        self.assertEqual(self.events([0, 0]), [2, 0, 0])

    def test_choices_beyond_the_number_of_options(self):
        self.assertEqual(self.events([3]), [1, 0, 0])
        self.assertEqual(self.events([4]), [0, 1, 0])
        self.assertEqual(self.events([10 ** 30 - 1]), [1, 0, 0])
        self.assertEqual(self.events([5, 3]), [0, 1, 1])

    def test_choices_that_are_left_over_and_that_run_out(self):
        self.assertEqual(self.events([0] * 4), [2, 1, 1])
        self.assertEqual(self.events([0] * 400), [2, 1, 1])
        self.assertEqual(self.events(tuple([7] * 400)), [2, 1, 1])
        machine = run(parse_program(self.PAIR), (), [0] * 3)
        self.assertEqual(machine.ready(), ["c"])
        self.assertIsInstance(machine, Machine)
        self.assertEqual(machine.step("c"), ("checkpoint",))

    def test_options_at_a_take_with_several_senders(self):
        lines = [
            "process a", "send b 1", "send b 2", "process b", "take x", "take x", "process c", "send b 3", "checkpoint",
            "process d", "set y 1",
        ]
        program = parse_program(lines)
        machine = run(program, (), [0, 0])
        self.assertEqual(machine.ready(), ["b", "c", "d"])
        # Choice 1 lets c send; then the options are (b, a), (b, c), c and d.
        for choice, name, event in (
            (0, "b", ("take", "a", "x", 1)), (1, "b", ("take", "c", "x", 3)), (2, "c", ("checkpoint",)),
            (3, "d", ("set", "y", 1)), (4, "b", ("take", "a", "x", 1)), (5, "b", ("take", "c", "x", 3)),
        ):
            with self.subTest(choice):
                before = run(program, (), [0, 0, 1])
                after = run(program, (), [0, 0, 1, choice])
                for one in program.names():
                    new = (event,) if one == name else ()
                    self.assertEqual(after.record().events(one), before.record().events(one) + new)

    def test_options_at_a_receive(self):
        lines = [
            "process a", "send b 1", "process b", "receive x a", "process c", "send b 3", "set y 1",
        ]
        machine = run(parse_program(lines), (), [0, 1, 1])
        self.assertEqual(machine.record().events("b"), ())
        self.assertEqual(machine.record().events("c"), (("send", "b", 3), ("set", "y", 1)))

    def test_nobody_is_ready(self):
        lines = ["process a", "receive x b", "process b", "receive x a"]
        self.assertEqual(self.events([0, 1, 2], lines), [0, 0])
        self.assertEqual(self.events([0, 1, 2], ["process a"]), [0])

    def test_inputs_are_taken(self):
        program = parse_program(["process a", "input x", "input x", "send b x", "process b", "take y"])
        choices = [0] * 10
        inputs = [["a", [5, 6]]]
        machine = run(program, inputs, choices)
        self.assertEqual(machine.variables("b"), [("y", 6)])
        self.assertEqual((inputs, choices), ([["a", [5, 6]]], [0] * 10))

    def test_equal_runs(self):
        program = parse_program(MEETING)
        choices = [3, 1, 4, 1, 5, 9, 2, 6]
        self.assertEqual(run(program, (), choices).record(), run(parse_program(MEETING), [], tuple(choices)).record())

    def test_a_large_run(self):
        names = ["p" + letter for letter in "abcdefghijklmnopqrstuvwxyz"] + ["q" + letter for letter in "abcdefghijklmn"]
        lines = []
        for at, name in enumerate(names):
            lines += [f"process {name}", "while 0 = 0", f"send {names[at - 1]} x", "take x", "end"]
        machine = run(parse_program(lines), (), list(range(400)))
        self.assertEqual(sum([machine.record().length(name) for name in names]), 400)


if __name__ == "__main__":
    unittest.main()

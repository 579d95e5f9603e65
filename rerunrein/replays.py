"""Replays: executing the events of a record under waits."""

from rerunrein.errors import NotReady
from rerunrein.orders import Order
from rerunrein.records import lacking


class Replay:
    """A replay of a record under waits, as far as it has got."""

    def __init__(self, record, waits=()):
        self.order = Order(record, waits)
        # How many events each process has executed.
        self.numbers = {name: 0 for name in record.names()}

    def reached(self):
        """The cut so far."""
        return tuple(self.numbers.values())

    def ready(self):
        """The names of the processes whose next event can be executed."""
        return [name for name in self.order.recorded.names() if self.can_step(name)]

    def can_step(self, name):
        """Whether a process has a next event, and everything ahead of it has been executed."""
        number = self.numbers[name] + 1
        if number > self.order.recorded.length(name):
            return False
        return not lacking(self.order.causes.get((name, number), ()), self.numbers)

    def step(self, name):
        """Executes the next event of a process and returns its recorded form."""
        events = self.order.recorded.events(name)
        if not self.can_step(name):
            raise NotReady(name)
        self.numbers[name] += 1
        return events[self.numbers[name] - 1]

    def copy(self):
        """An independent replay that has got as far."""
        twin = Replay(self.order.recorded, self.order.waits())
        twin.numbers = dict(self.numbers)
        return twin


def replay(record, waits, choices):
    """The cuts that a replay passes whose steps the choices choose."""
    running = Replay(record, waits)
    cuts = [running.reached()]
    for choice in choices:
        names = running.ready()
        if not names:
            break
        running.step(names[choice % len(names)])
        cuts.append(running.reached())
    return cuts

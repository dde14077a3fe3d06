"""Sizing: how many tasks a job's steps need, on which machines they stand, and what moves when machines change."""

from streamstack.errors import JobError
from streamstack.jobs import inputs_of

MOST_NEEDED = 1000
MOST_SLOTS = 64


class Load:
    """How many records a step takes a task in a tick, and how many it gives for a hundred that it takes."""

    def __init__(self, most, gives=100):
        if most < 1 or gives < 0:
            raise JobError("a task takes a record at least, and gives none below 0")
        self.most = most
        self.gives = gives


def rates_of(job, sources, loads):
    """Return a table of steps to how many records come to each in a tick; a source's are told.

    What a step gives is what comes to it, times what it gives for a hundred, by 100, rounded up; steps without a load
    give what comes. Raise JobError for sources that are not just the job's, or a rate below 0.
    """
    if sorted(sources) != sorted(job.of_class("source")) or any(rate < 0 for rate in sources.values()):
        raise JobError("the sources do not fit")
    rates = {}
    gives = {}
    for name, step in job.steps.items():
        rates[name] = sources[name] if step[0] == "source" else sum([gives[one] for one in inputs_of(step)])
        gives[name] = rounded_up(rates[name] * loads[name].gives, 100) if name in loads else rates[name]
    return rates


def rounded_up(number, by):
    """Return a number by another one, rounded up."""
    return (number + by - 1) // by


def needed_tasks(job, sources, loads):
    """Return a table of steps to how many tasks each needs: its rate by what a task takes, rounded up, one at least."""
    found = {}
    for name, rate in rates_of(job, sources, loads).items():
        found[name] = max(rounded_up(rate, loads[name].most), 1) if name in loads else 1
        if found[name] > MOST_NEEDED:
            raise JobError(f"{name} needs too many tasks")
    return found


class Machines:
    """Slots by machine, and the machine of each task."""

    def __init__(self, slots):
        if any(not 0 < many <= MOST_SLOTS for many in slots.values()):
            raise JobError("a machine without slots, or with too many")
        self.slots = dict(slots)
        self.places = {}

    def used(self, machine):
        """Return how many slots of a machine are taken."""
        return len([task for task, one in self.places.items() if one == machine])

    def free(self):
        """Return how many slots are free in all."""
        return sum(self.slots.values()) - len(self.places)

    def put(self, tasks):
        """Let just some tasks stand on the machines, and return the (task, machine before, machine now) that changed.

        Tasks that stand on a machine that is there stay; others, in their order, go to the machine with the most free
        slots, of those the one with the fewest tasks of the same step, then the first by name. What is gone has None
        now, what is new None before. Raise JobError if there are too few slots, or a task is told twice; nothing
        changes then.
        """
        told = {task: True for task in tasks}
        if len(tasks) > sum(self.slots.values()) or len(told) != len(tasks):
            raise JobError("too few slots, or a task twice")
        return self.settle({task: machine for task, machine in self.places.items() if task in told}, tasks)

    def settle(self, stay, tasks):
        """Let some tasks stay where a table tells, and others of a list find a machine; return what changed."""
        before = self.places
        self.places = stay
        for task in tasks:
            if task not in self.places:
                self.places[task] = self.best_for(task)
        told = list(before) + [task for task in self.places if task not in before]
        moves = [(task, before.get(task), self.places.get(task)) for task in sorted(told)]
        return tuple([move for move in moves if move[1] != move[2]])

    def best_for(self, task):
        """Return the machine for a task, as put tells."""
        return min(self.slots, key=lambda machine: self.machine_rank(machine, task[0]))

    def machine_rank(self, machine, step):
        """Return what a machine is ranked by for a task of a step."""
        same = [task for task, one in self.places.items() if one == machine and task[0] == step]
        return (self.used(machine) - self.slots[machine], len(same), machine)

    def change(self, slots):
        """Let other machines be there, and move the tasks of those that are gone, or have too few slots; return moves.

        Of a machine with too few slots the last tasks go. Raise JobError if there are too few slots in all.
        """
        fresh = Machines(slots)
        tasks = sorted(self.places)
        if len(tasks) > sum(fresh.slots.values()):
            raise JobError("too few slots")
        for task in tasks:
            machine = self.places[task]
            if machine in fresh.slots and fresh.used(machine) < fresh.slots[machine]:
                fresh.places[task] = machine
        self.slots = fresh.slots
        return self.settle(fresh.places, tasks)

"""Stores: cabinets for what a task keeps, in memory and in runs of rows, told by what changed since."""

from streamstack.bags import row_rank
from streamstack.errors import SnapshotError

MOST_RUNS = 6
MOST_MEMORY = 8


class Run:
    """A number, and (key, row or None) pairs ascending by keys; None for a key that was taken away."""

    def __init__(self, number, pairs):
        self.number = number
        self.pairs = tuple(pairs)
        self.table = {key: row for key, row in self.pairs}

    def find(self, key):
        """Return (True, what stands there) for a key, (False, None) for one that the run does not tell of."""
        return (key in self.table, self.table.get(key))


class Cabinet:
    """What was put since the last run, the runs, the newest first, and the number of the next run."""

    def __init__(self):
        self.memory = {}
        self.runs = []
        self.next_number = 0

    def put(self, key, row):
        """Put a row at a key, None to take it away; a full memory becomes a run."""
        self.memory[key] = row
        if len(self.memory) >= MOST_MEMORY:
            self.flush()

    def row_at(self, key):
        """Return what stands at a key, None for nothing."""
        if key in self.memory:
            return self.memory[key]
        for run in self.runs:
            is_told, row = run.find(key)
            if is_told:
                return row
        return None

    def flush(self):
        """Let the memory become a run, if there is something in it; more than six runs are joined to one."""
        if self.memory == {}:
            return
        self.add_run(ascending(self.memory))
        self.memory = {}
        if len(self.runs) > MOST_RUNS:
            self.join_all()

    def add_run(self, pairs):
        """Let pairs be the newest run, with the next number."""
        self.runs = [Run(self.next_number, pairs)] + self.runs
        self.next_number += 1

    def join(self):
        """Join all runs, and the memory, to one with a number of its own.

        The newest pair counts, those of None go.
        """
        self.join_all()

    def join_all(self):
        """Do what join does; the package asks here, as texts have a join that takes other arguments."""
        pairs = self.rows()
        self.memory = {}
        self.runs = []
        if pairs != ():
            self.add_run(pairs)

    def rows(self):
        """Return the (key, row) pairs, ascending."""
        found = {}
        for run in reversed(self.runs):
            for key, row in run.pairs:
                found[key] = row
        for key, row in self.memory.items():
            found[key] = row
        return ascending({key: row for key, row in found.items() if row is not None})

    def tell(self, known):
        """Flush, and return (numbers of all runs, the newest first, the runs whose numbers are not known)."""
        self.flush()
        numbers = tuple([run.number for run in self.runs])
        return (numbers, tuple([run for run in self.runs if run.number not in known]))


def ascending(table):
    """Return the (key, row) pairs of a table, ascending by keys."""
    return tuple(sorted(table.items(), key=lambda pair: row_rank(pair[0])))


class Vault:
    """Runs by number that some kept telling has, the run numbers of each by name, and one above all ever kept."""

    def __init__(self):
        self.runs = {}
        self.tellings = {}
        self.next_number = 0

    def known(self):
        """Return the numbers of runs that are kept, ascending."""
        return tuple(sorted(self.runs))

    def keep(self, name, told):
        """Keep a telling by a name; raise SnapshotError for a name that is taken, or runs that are missing."""
        numbers, runs = told
        there = {run.number: run for run in runs}
        if name in self.tellings or any(number not in self.runs and number not in there for number in numbers):
            raise SnapshotError(f"{name} is taken, or runs are missing")
        for number in numbers:
            if number not in self.runs:
                self.runs[number] = there[number]
            self.next_number = max(self.next_number, number + 1)
        self.tellings[name] = tuple(numbers)

    def forget(self, name):
        """Forget a telling, and the runs that no other one has; raise SnapshotError for an unknown one."""
        self.need(name)
        del self.tellings[name]
        held = {number: True for numbers in self.tellings.values() for number in numbers}
        self.runs = {number: run for number, run in self.runs.items() if number in held}

    def need(self, name):
        """Raise SnapshotError for an unknown telling."""
        if name not in self.tellings:
            raise SnapshotError(f"no telling {name}")

    def restored(self, name):
        """Return a cabinet as it was told by a name; raise SnapshotError for an unknown one.

        Its next run's number is above all that were ever kept here.
        """
        self.need(name)
        cabinet = Cabinet()
        cabinet.runs = [self.runs[number] for number in self.tellings[name]]
        cabinet.next_number = self.next_number
        return cabinet

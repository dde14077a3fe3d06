"""Snapshots: where a job was at one moment, as if all had stood still, and what its sinks gave up to then."""

from streamstack.errors import SnapshotError


class Snapshot:
    """A number, how far parts were read by source, and by step and group what was kept."""

    def __init__(self, number):
        self.number = number
        self.places = {}
        self.kept = {}

    def put_place(self, source, part, place, greatest):
        """Note how far a part was read, and the greatest time that was read of it."""
        self.places[(source, part)] = (place, greatest)

    def put_groups(self, name, groups):
        """Note what a task kept of its groups."""
        for group, told in groups.items():
            # A list would stay its teller's to change; what a snapshot keeps does not change.
            self.kept[(name, group)] = tuple(told)

    def groups_of(self, name):
        """Return a table of a step's groups to what was kept."""
        return {group: told for (step, group), told in self.kept.items() if step == name}


class Store:
    """The last whole snapshot, the one under way with the tasks that have not told yet, and what sinks gave.

    What a sink gives between two snapshots is pending until the later one is whole; then it counts.
    """

    def __init__(self):
        self.last = Snapshot(0)
        self.under_way = None
        self.lacking = {}
        self.pending = {}
        self.counted = []

    def begin(self, tasks):
        """Begin the next snapshot, of these tasks, and return its number; raise SnapshotError if one is under way."""
        if self.under_way is not None:
            raise SnapshotError("a snapshot is under way")
        self.under_way = Snapshot(self.last.number + 1)
        self.lacking = {task: True for task in tasks}
        return self.under_way.number

    def need(self, number, task):
        """Raise SnapshotError if a task does not have to tell for a snapshot."""
        if self.under_way is None or self.under_way.number != number or task not in self.lacking:
            raise SnapshotError(f"{task} does not have to tell for a snapshot {number}")

    def tell_places(self, number, task, places):
        """Note (part, place, greatest time) rows of a source's task."""
        self.need(number, task)
        for part, place, greatest in places:
            self.under_way.put_place(task[0], part, place, greatest)
        self.note(task)

    def tell_groups(self, number, task, groups):
        """Note what a task kept."""
        self.need(number, task)
        self.under_way.put_groups(task[0], groups)
        self.note(task)

    def tell_given(self, number, task, records):
        """Note what a sink's task gave since the snapshot before."""
        self.need(number, task)
        self.pending[task] = tuple(records)
        self.note(task)

    def note(self, task):
        """Note that a task has told; with the last one the snapshot is whole, and what is pending counts."""
        del self.lacking[task]
        if self.lacking != {}:
            return
        for teller in sorted(self.pending):
            self.counted.extend([(teller[0], record) for record in self.pending[teller]])
        self.last = self.under_way
        self.drop()

    def drop(self):
        """Give up the snapshot under way, and what is pending."""
        self.under_way = None
        self.lacking = {}
        self.pending = {}

    def counts_of(self, sink):
        """Return the records that count of a sink, in order."""
        return tuple([record for name, record in self.counted if name == sink])

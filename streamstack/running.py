"""Running: a job as tasks that send each other records, in any order of steps, down and up again, by more or fewer."""

from streamstack.errors import JobError
from streamstack.jobs import inputs_of
from streamstack.snapshots import Store
from streamstack.states import GROUPS, group_of, state_of
from streamstack.times import Marks

MOST_TASKS = 8
# To steps of these classes each record goes by its key's group.
GROUPED = ("total", "session", "meet")


class Task:
    """A step's name and number, its state, channels in and out, the time that has come, and what it gave.

    A channel in is (which input, number of the task that sends), its messages stand in order: ("record", record),
    ("time", time), ("order", number of a snapshot) and ("over", None). Channels out are (step, which of its inputs).
    """

    def __init__(self, name, number, state):
        self.name = name
        self.number = number
        self.state = state
        self.channels = {}
        self.outs = []
        self.waiting = {}
        self.ended = {}
        self.marks = Marks(())
        self.given = []

    def put_channels(self, channels):
        """Let these be the channels in, with nothing in them."""
        self.channels = {channel: [] for channel in channels}
        self.marks = Marks(channels)

    def moves(self):
        """Return the list of what may happen next at this task."""
        task = (self.name, self.number)
        ready = [channel for channel, queue in self.channels.items() if queue != [] and channel not in self.waiting]
        return [("take", task, channel) for channel in ready]


class Reader:
    """A source's task: its log, its parts (next place, greatest time), how late records may be, and orders.

    An order is the number of a snapshot that it has to tell of; it is closed once nothing more comes.
    """

    def __init__(self, name, number, log, late):
        self.name = name
        self.number = number
        self.log = log
        self.late = late
        self.parts = {}
        self.orders = []
        self.outs = []
        self.closed = False
        self.time_told = 0
        self.is_over = False

    def moves(self):
        """Return the list of what may happen next at this task."""
        task = (self.name, self.number)
        found = [("read", task, part) for part in self.parts if self.has_more(part)]
        may_end = self.parts == {} or (self.closed and found == [])
        if self.orders != []:
            found.append(("order", task))
        if may_end and not self.is_over:
            found.append(("over", task))
        return found

    def next_place(self, part):
        """Return the place of the next record of a part; what was cut off is not read."""
        return max(self.parts[part][0], self.log.parts[part].first)

    def has_more(self, part):
        """Return whether a part has a record that was not read."""
        return self.next_place(part) < self.log.parts[part].end()

    def next_record(self, part):
        """Return the next (place, record) of a part that has one."""
        return self.log.parts[part].read(self.next_place(part), 1)[0]

    def note(self, part, place, time):
        """Note that the record at a place was read."""
        self.parts[part] = (place + 1, max(self.parts[part][1], time))

    def time_now(self):
        """Return the time before which nothing more can come of any part."""
        return min([greatest for _, greatest in self.parts.values()]) - self.late


class Cluster:
    """A job, its sources' logs, how late records may be, how many tasks a step has, its tasks, and a store.

    A record may stand behind ones of its part whose times are greater by less than how late it may be, or just so
    much.
    """

    def __init__(self, job, logs, late=0, many=1):
        if job.steps == {} or sorted(job.of_class("source")) != sorted(logs) or late < 0:
            raise JobError("no steps, other sources than the job's, or a lateness below 0")
        need_many(many)
        self.job = job
        self.logs = dict(logs)
        self.late = late
        self.store = Store()
        self.closed = False
        self.many = many
        self.tasks = {}
        self.come_up(many)

    def come_up(self, many):
        """Let each step have so many fresh tasks, which go on from the last whole snapshot."""
        self.many = many
        self.tasks = {}
        for name, step in self.job.steps.items():
            for number in range(many):
                fresh = self.fresh_reader(name, number) if step[0] == "source" else self.fresh_task(name, number)
                fresh.outs = self.job.readers(name)
                self.tasks[(name, number)] = fresh

    def fresh_reader(self, name, number):
        """Return a source's task, whose parts were read as far as the last whole snapshot tells."""
        log = self.logs[name]
        reader = Reader(name, number, log, self.late)
        reader.closed = self.closed
        for part in range(number, len(log.parts), self.many):
            reader.parts[part] = self.store.last.places.get((name, part), (log.parts[part].first, 0))
        return reader

    def fresh_task(self, name, number):
        """Return a step's task, which keeps what the last whole snapshot tells of its groups."""
        task = Task(name, number, state_of(self.job, name))
        inputs = range(len(inputs_of(self.job.steps[name])))
        task.put_channels([(which, sender) for which in inputs for sender in self.linked(name, number)])
        for group, told in self.store.last.groups_of(name).items():
            if self.number_of(group) == number:
                task.state.put(told)
        return task

    def is_grouped(self, name):
        """Return whether records go to the tasks of a step by their groups."""
        return self.job.steps[name][0] in GROUPED

    def linked(self, name, number):
        """Return the list of the numbers of tasks that a task of a step is linked to by channels, on either side."""
        return list(range(self.many)) if self.is_grouped(name) else [number]

    def number_of(self, group):
        """Return the number of the task that has a group."""
        return group * self.many // GROUPS

    def object_of(self, task):
        """Return a task that is told by (step, number), or by itself."""
        return self.tasks[task] if isinstance(task, tuple) else task

    def send(self, task, record):
        """Send a record to all that read a task."""
        sender = self.object_of(task)
        queues = []
        for name, which in sender.outs:
            number = self.number_of(group_of(record[0])) if self.is_grouped(name) else sender.number
            queues.append(self.tasks[(name, number)].channels[(which, sender.number)])
        for queue in queues:
            queue.append(("record", record))

    def tell_all(self, sender, message):
        """Send a message over all channels out of a task."""
        for name, which in sender.outs:
            for number in self.linked(name, sender.number):
                self.tasks[(name, number)].channels[(which, sender.number)].append(message)

    def moves(self):
        """Return what may happen next: ("read", task, part), ("order", task), ("over", task), ("take", task, channel).

        Tasks stand in the order of the steps, then of their numbers; a channel that waits, or is empty, moves nothing.
        """
        found = []
        for task in self.tasks.values():
            found.extend(task.moves())
        return found

    def first_move(self, with_reading):
        """Return the first move, of those that read no record if they are told so; None if there is none."""
        for task in self.tasks.values():
            for move in task.moves():
                if with_reading or move[0] != "read":
                    return move
        return None

    def act(self, choice):
        """Let what a choice tells happen, its remainder by the number of moves; return it, None if nothing may."""
        moves = self.moves()
        if moves == []:
            return None
        move = moves[choice % len(moves)]
        self.let_happen(move)
        return move

    def let_happen(self, move):
        """Let a move happen."""
        task = self.tasks[move[1]]
        if move[0] == "take":
            self.take(task, move[2])
        elif move[0] == "read":
            self.read(task, move[2])
        elif move[0] == "order":
            self.tell_places(task)
        else:
            task.is_over = True
            self.tell_all(task, ("over", None))

    def read(self, reader, part):
        """Let a reader read the next record of a part, and tell the time behind it if it is greater."""
        place, record = reader.next_record(part)
        self.send(reader, record)
        reader.note(part, place, record[2])
        time = reader.time_now()
        if time > reader.time_told:
            reader.time_told = time
            self.tell_all(reader, ("time", time))

    def tell_places(self, reader):
        """Let a reader tell its places to the snapshot that it was ordered to, and send the order on."""
        number = reader.orders[0]
        places = tuple([(part, place, greatest) for part, (place, greatest) in reader.parts.items()])
        self.store.tell_places(number, (reader.name, reader.number), places)
        del reader.orders[0]
        self.tell_all(reader, ("order", number))

    def take(self, task, channel):
        """Let a task take what came first over a channel."""
        taker = self.object_of(task)
        if taker.channels[channel] == [] or channel in taker.waiting:
            return
        word, told = taker.channels[channel][0]
        if word == "record":
            self.give(taker, taker.state.take(channel[0], told, taker.marks.now))
        elif word == "time":
            before = taker.marks.now
            self.come(taker, before, taker.marks.tell(channel, told))
        elif word == "order":
            self.take_order(taker, channel, told)
        else:
            self.take_over(taker, channel)
        del taker.channels[channel][0]

    def give(self, taker, records):
        """Send what a task gives; what a sink gives stays with it up to the next snapshot."""
        if self.job.steps[taker.name][0] == "sink":
            taker.given.extend(records)
        for record in records:
            self.send(taker, record)

    def come(self, taker, before, now):
        """Let a time come to a task, if it is greater than the one before, and send it on."""
        if now > before:
            self.give(taker, taker.state.come(now))
            self.tell_all(taker, ("time", now))

    def take_over(self, taker, channel):
        """Let a task take that nothing more comes over a channel; behind the last one all that it keeps is over."""
        taker.ended[channel] = True
        if len(taker.ended) == len(taker.channels):
            self.give(taker, taker.state.all_over())
            self.tell_all(taker, ("over", None))
        else:
            before = taker.marks.now
            self.come(taker, before, taker.marks.rest(channel))

    def take_order(self, taker, channel, number):
        """Let a channel wait for a task's others; with the last one the task tells the snapshot, and sends it on."""
        if len(taker.waiting) + 1 < len(taker.channels):
            taker.waiting[channel] = True
            return
        task = (taker.name, taker.number)
        if self.job.steps[taker.name][0] == "sink":
            self.store.tell_given(number, task, taker.given)
        else:
            self.store.tell_groups(number, task, taker.state.shown())
        taker.given = []
        taker.waiting = {}
        self.tell_all(taker, ("order", number))

    def begin_snapshot(self):
        """Begin a snapshot and return its number; raise SnapshotError if one is under way."""
        number = self.store.begin(list(self.tasks))
        for reader in self.readers():
            reader.orders.append(number)
        return number

    def readers(self):
        """Return the list of the sources' tasks."""
        return [task for task in self.tasks.values() if isinstance(task, Reader)]

    def crash(self, many=None):
        """Let all tasks go and come up again from the last whole snapshot, by another number of tasks if it is told."""
        fresh = self.many if many is None else many
        need_many(fresh)
        self.store.drop()
        self.come_up(fresh)

    def scale(self, many):
        """Go on by another number of tasks, from a snapshot that is taken now; return what was read twice, always 0.

        No record is read meanwhile, none anew behind it. Raise SnapshotError if a snapshot is under way, JobError for
        a number that cannot be.
        """
        need_many(many)
        self.begin_snapshot()
        while self.store.under_way is not None:
            self.let_happen(self.first_move(False))
        self.come_up(many)
        return 0

    def read_places(self):
        """Return a table of (source, part) to (next place, greatest time)."""
        found = {}
        for reader in self.readers():
            for part, (_, greatest) in reader.parts.items():
                found[(reader.name, part)] = (reader.next_place(part), greatest)
        return found

    def finish(self):
        """Close, let all records be read and taken, the first move always, then a last snapshot be whole.

        Return what counts: a table of sinks to their records, in order.
        """
        self.closed = True
        for reader in self.readers():
            reader.closed = True
        self.run_out()
        self.begin_snapshot()
        self.run_out()
        return {name: self.store.counts_of(name) for name in self.job.of_class("sink")}

    def run_out(self):
        """Let the first move happen until there is none."""
        move = self.first_move(True)
        while move is not None:
            self.let_happen(move)
            move = self.first_move(True)

    def late_records(self):
        """Return how many records were too late for a window, of all tasks since they were made."""
        return sum([task.state.late for task in self.tasks.values() if isinstance(task, Task)])


def need_many(many):
    """Raise JobError for a number of tasks that a step cannot have."""
    if not 0 < many <= MOST_TASKS:
        raise JobError(f"a step cannot have {many} tasks")

"""The desk: logs, jobs and views by lines of text."""

from streamstack.bags import Bag
from streamstack.errors import JobError, StreamError
from streamstack.jobs import Job
from streamstack.logs import Log
from streamstack.plans import Sources
from streamstack.queries import FIGURES, parse_query
from streamstack.running import Cluster
from streamstack.scripts import first_word, good_name, parse_line
from streamstack.views import View

DESK_PARTS = 2
MOST_MOVES = 5000
NEXT_CHOICE = 7
# Python reads and writes no numbers of thousands of figures.
MOST_FIGURES = 900


class Desk:
    """A job that is told by lines, logs, the cluster that runs it or None, views by name, and the sources' bags."""

    def __init__(self):
        self.job = Job()
        self.logs = {}
        self.cluster = None
        self.views = {}
        self.bags = {}

    def enter(self, line):
        """Return the answer to a line, "error" for one that cannot be, which changes nothing."""
        try:
            return self.answer(line)
        except StreamError:
            return "error"

    def answer(self, line):
        """Return the answer to a line; raise an error for one that cannot be."""
        name, mark, _ = line.partition("=")
        if mark != "" and len(name.split()) == 1:
            return self.add_step(line)
        words = line.split()
        word = words[0] if words != [] else ""
        if word == "put":
            return self.put(words)
        if word == "view":
            return self.add_view(line)
        if word == "show" and len(words) == 2:
            return self.show(words[1])
        if word == "shape" and len(words) == 2:
            return self.show_shape(words[1])
        numbers = [natural(one) for one in words[1:]]
        if word == "run" and len(numbers) == 2:
            return self.run(numbers[0], numbers[1])
        return self.answer_running(word, numbers)

    def answer_running(self, word, numbers):
        """Return the answer to a word and numbers that a job that runs is told; raise JobError for others."""
        if self.cluster is None:
            raise JobError("no job runs")
        if word == "go" and len(numbers) == 2:
            return self.go(numbers[0], numbers[1])
        if word == "snapshot" and numbers == []:
            return f"snapshot {self.cluster.begin_snapshot()}"
        if word == "crash" and len(numbers) == 1:
            self.cluster.crash(numbers[0])
            return "crash"
        if word == "scale" and len(numbers) == 1:
            self.cluster.scale(numbers[0])
            return "scale"
        if word == "finish" and numbers == []:
            return self.finish()
        raise JobError("no such line")

    def add_step(self, line):
        """Add a step to the job, and for a source a log and a bag; raise an error for one that cannot be."""
        if self.cluster is not None:
            raise JobError("the job runs")
        name, step = parse_line(line)
        self.job.add(name, step)
        if step[0] == "source":
            self.logs[name] = Log(DESK_PARTS)
            self.bags[name] = Bag()
        return "step"

    def put(self, words):
        """Add a record to a source: "put name time value ..": its part and place, and each view's change."""
        if len(words) < 3 or words[1] not in self.logs:
            raise JobError("no such source, or no time")
        if self.cluster is not None and self.cluster.closed:
            raise JobError("the job is finished")
        name = words[1]
        time = natural(words[2])
        row = self.job.shapes[name].check_row(tuple([value_of_word(word) for word in words[3:]]))
        part, place = self.logs[name].append(row[:1], row, time)
        self.bags[name].add(row)
        for view in self.views.values():
            view.change({name: Bag(((row, 1),))})
        return f"{part} {place}"

    def add_view(self, line):
        """Add a view over the sources: "view name query": how many different rows it has."""
        _, behind = first_word(line)
        name, query = first_word(behind)
        if good_name(name) in self.views:
            raise JobError("the name is taken")
        sources = Sources([(source, self.job.shapes[source]) for source in self.bags])
        view = View(parse_query(query), sources)
        view.change(self.bags)
        self.views[name] = view
        return f"view {len(view.bag.weights)}"

    def show(self, name):
        """Return the rows of a view, or those that count of a sink of a job that runs; raise JobError for others."""
        if name in self.views:
            return text_of(self.views[name].bag.spread())
        if self.cluster is None or name not in self.job.of_class("sink"):
            raise JobError(f"{name} is no view, and no sink that runs")
        return text_of([row for _, row, _ in self.cluster.store.counts_of(name)])

    def show_shape(self, name):
        """Return the columns behind a step; raise JobError for an unknown one."""
        if name not in self.job.shapes:
            raise JobError(f"no step {name}")
        return ", ".join([f"{column} {kind}" for column, kind in self.job.shapes[name].columns])

    def run(self, many, late):
        """Let the job run; raise JobError if it does, or cannot."""
        if self.cluster is not None:
            raise JobError("the job runs")
        self.cluster = Cluster(self.job, self.logs, late, many)
        return "run"

    def go(self, many, choice):
        """Let so many moves happen, and tell how many did; raise JobError for too many."""
        if many > MOST_MOVES:
            raise JobError("too many moves")
        happened = 0
        while happened < many and self.cluster.act(choice + happened * NEXT_CHOICE) is not None:
            happened += 1
        return f"go {happened}"

    def finish(self):
        """Let all be read, and tell of how many records count at each sink, by names."""
        counts = self.cluster.finish()
        return " ".join([f"{name} {len(counts[name])}" for name in sorted(counts)])


def natural(word):
    """Return the number from 0 on of a word; raise JobError for another one."""
    if not 0 < len(word) <= MOST_FIGURES or any(sign not in FIGURES for sign in word):
        raise JobError(f"{word} is no number from 0 on")
    return int(word)


def value_of_word(word):
    """Return the whole number of a word of figures, also behind "-", or the word as a text."""
    figures = word[1:] if word[:1] == "-" else word
    if figures == "" or any(sign not in FIGURES for sign in figures):
        return word
    return natural(figures) * (-1 if word[:1] == "-" else 1)


def text_of(rows):
    """Return a line for each row, its values parted by blanks."""
    return "\n".join([" ".join([str(value) for value in row]) for row in rows])

"""Upgrades: a job that is exchanged for another one while it runs: the new one catches up, then its sinks count."""

from streamstack.errors import JobError
from streamstack.running import Cluster


class Upgrade:
    """The logs, the job that counts, its cluster, and the one that catches up with its cluster, or None."""

    def __init__(self, job, logs, late=0, many=1):
        self.logs = dict(logs)
        self.late = late
        self.many = many
        self.job = job
        self.live = Cluster(job, logs, late, many)
        self.fresh = None

    def begin(self, job):
        """Let another job begin to catch up, from the logs' beginning; raise JobError if one does, or sources differ.

        What was cut off before is not read by it.
        """
        if self.fresh is not None or sorted(job.of_class("source")) != sorted(self.job.of_class("source")):
            raise JobError("another job catches up, or the sources differ")
        # The live one may have been scaled since it was made.
        self.fresh = Cluster(job, self.logs, self.late, self.live.many)

    def need(self):
        """Raise JobError if no job catches up."""
        if self.fresh is None:
            raise JobError("no job catches up")

    def drop(self):
        """Give the upgrade up; raise JobError if there is none."""
        self.need()
        self.fresh = None

    def act(self, choice):
        """Let one move happen in each cluster, by a number from 0 on; return how many did."""
        many = 0
        for cluster in (self.live, self.fresh):
            if cluster is not None and cluster.act(choice) is not None:
                many += 1
        return many

    def behind(self):
        """Return how many records the new job has to read until it has read as many of each part as the other one.

        That is the one that counts. Raise JobError without an upgrade.
        """
        self.need()
        mine = self.fresh.read_places()
        theirs = self.live.read_places()
        return sum([max(theirs[part][0] - mine[part][0], 0) for part in theirs])

    def switch(self):
        """Let the new job count, if it has caught up; return whether it did. Raise JobError without an upgrade.

        Nothing of what the elder one gave counts any more.
        """
        if self.behind() > 0:
            return False
        self.live = self.fresh
        self.job = self.live.job
        self.many = self.live.many
        self.fresh = None
        return True

    def finish(self):
        """Let all be read, and return what counts: of the job that counts, a table of sinks to records."""
        return self.live.finish()

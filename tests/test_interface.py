"""The names, arguments, defaults and fields that the interface lists."""

import ast
import importlib
import inspect
import unittest

from streamstack.bags import Bag
from streamstack.deals import DealDoor
from streamstack.desk import Desk
from streamstack.feeds import Feed, Follower
from streamstack.groups import Group
from streamstack.jobs import Job
from streamstack.logs import Door, Log, Part, Producer
from streamstack.mirrors import Mirror
from streamstack.orders import Guess
from streamstack.plans import Sources
from streamstack.replicas import Copy, Replicas
from streamstack.rows import ByteReader, Shape
from streamstack.running import Cluster, Reader, Task
from streamstack.schemas import Registry, Schema
from streamstack.scripts import parse_job
from streamstack.sizing import Load, Machines
from streamstack.snapshots import Snapshot, Store
from streamstack.states import state_of
from streamstack.stores import Cabinet, Run, Vault
from streamstack.times import Marks
from streamstack.upgrades import Upgrade
from streamstack.views import View

FUNCTIONS = {
    "rows": ["kind_of(value)", "natural_bytes(number)", "row_bytes(row)", "read_row(data)", "hash_of(row)"],
    "bags": ["value_rank(value)", "row_rank(row)", "same_bags(one, other)"],
    "terms": ["kind_of_term(term, shape)", "parts_of(term)", "columns_of(term)", "renamed_term(term, names)",
              "value_of(term, row, shape)", "summed(sign, one, other)", "tested(sign, one, other)"],
    "plans": ["shape_of(plan, sources)", "made_shape(columns)", "check_plan(plan, sources)", "count_plans(plan)",
              "plans_of(plan)", "given(plan, bags, sources)", "picked(columns, row, shape)",
              "met(pairs, bags, one, other)", "grouped(plan, bag, shape)", "totals_of(totals, rows, shape)"],
    "orders": ["meeting_rows(guess, names, pairs)", "cost_of(guess, order, pairs)",
               "best_order(guess, names, pairs)", "plan_of(order, pairs)", "used_columns(terms)"],
    "views": [],
    "feeds": [],
    "queries": ["tokens_of(text)", "parse_query(text)", "parse_term(text)"],
    "errors": [],
    "moves": ["improved(plan, sources)", "moved(plan, sources)", "all_of(truth)"],
    "logs": ["sum_of_bytes(data)", "record_bytes(key, row, time)", "read_records(data)"],
    "replicas": [],
    "mirrors": [],
    "groups": ["shares_of(members, many, old=())"],
    "times": [],
    "deals": ["read_kept(part, end)"],
    "schemas": [],
    "jobs": ["inputs_of(step)", "check_spans(step)", "shape_of_each(step, inner)", "each_row(step, inner, row)",
             "key_of(step, inner, row)", "total_row(step, inner, span, rows)", "whole(job, sources)",
             "whole_each(step, inner, records)", "whole_totals(step, inner, records)", "spans_of(step, rows)",
             "whole_meet(inner, gap)", "record_rank(record)"],
    "scripts": ["parse_job(text)", "good_name(text)", "whole_number(text)", "parted(text, mark)", "parse_step(text)",
                "parse_each(text)", "parse_totals(text)"],
    "jobmoves": ["put_columns(term, columns)", "count_parts(term)", "used_steps(job)", "one_each(job, name)",
                 "swapped(job, name)", "fewer_steps(job)", "moved_job(job)", "terms_use(job, name)"],
    "stores": [],
    "states": ["group_of(key)", "key_rank(key)", "span_rank(one)", "state_of(job, name)"],
    "snapshots": [],
    "running": [],
    "upgrades": [],
    "sizing": ["rates_of(job, sources, loads)", "needed_tasks(job, sources, loads)"],
    "desk": [],
}

STATE = ["__init__(self, step, shapes)", "take(self, place, record, mark)", "come(self, mark)", "shown(self)",
         "put(self, told)"]

CLASSES = {
    "rows": {"Shape": ["__init__(self, columns)", "place_of(self, name)", "kinds(self)", "check_row(self, row)"],
             "ByteReader": ["__init__(self, data)", "byte(self)", "row(self)"]},
    "bags": {"Bag": ["__init__(self, rows=())", "add(self, row, weight=1)", "weight(self, row)", "rows(self)",
                     "plus(self, other)", "times(self, number)", "minus(self, other)", "once(self)",
                     "is_set(self)", "spread(self)"]},
    "plans": {"Sources": ["__init__(self, shapes)"]},
    "orders": {"Guess": ["__init__(self, rows, different)", "values(self, source, column)"]},
    "views": {"View": ["__init__(self, plan, sources)", "change(self, changes)"]},
    "feeds": {"Feed": ["__init__(self, view)", "change(self, changes)", "ask(self, number)"],
              "Follower": ["__init__(self)", "take(self, told)"]},
    "errors": {name: [] for name in ("StreamError", "RowError", "QueryError", "LogError", "GroupError", "JobError",
                                     "SnapshotError")},
    "logs": {"Part": ["__init__(self)", "append(self, key, row, time)", "sync(self)", "end(self)", "crash(self, many)",
                      "read(self, place, most)", "trim(self, place)"],
             "Log": ["__init__(self, many)", "part_of(self, key)", "append(self, key, row, time)", "sync(self)",
                     "latest(self)"],
             "Producer": ["__init__(self, name)", "send(self, door, key, row, time)"],
             "Door": ["__init__(self, log)", "take(self, name, number, key, row, time)"]},
    "replicas": {"Copy": ["__init__(self)", "end_of(self, time)"],
                 "Replicas": ["__init__(self, names, least)", "append(self, row)", "is_kept(self, place)",
                              "pull(self, name, many)", "go_down(self, name)", "come_up(self, name)", "elect(self)",
                              "drop_slow(self, name)", "read(self, name, place)"]},
    "mirrors": {"Mirror": ["__init__(self, source, target, each=5)", "carry(self, part, many)",
                           "place_there(self, part, place)", "end_there(self, part)", "lag(self, part)"]},
    "groups": {"Group": ["__init__(self, many, length)", "join(self, name, time)", "leave(self, name, time)",
                         "need(self, name, time)", "beat(self, name, time)", "look(self, time)",
                         "note(self, name, generation, part, place, time)"]},
    "times": {"Marks": ["__init__(self, names)", "tell(self, name, time)", "rest(self, name)", "time_now(self)"],
              "Windows": ["__init__(self, length, step)", "around(self, time)"],
              "Sessions": ["__init__(self, gap)", "joined(self, spans, time)"]},
    "deals": {"DealDoor": ["__init__(self, log)", "enter(self, name)", "need(self, name, age)",
                           "begin(self, name, age)", "add(self, name, age, key, row, time)", "commit(self, name, age)",
                           "drop(self, name, age)", "end(self, name, word)", "firm_end(self, part)"]},
    "schemas": {"Schema": ["__init__(self, columns, lacking=())", "reads(self, other)", "row_from(self, other, row)"],
                "Registry": ["__init__(self)", "put_rule(self, subject, rule)", "fits(self, subject, schema)",
                             "add(self, subject, schema)", "read(self, subject, number, row, wanted)"]},
    "jobs": {"Job": ["__init__(self)", "add(self, name, step)", "readers(self, name)", "of_class(self, word)"]},
    "stores": {"Run": ["__init__(self, number, pairs)", "find(self, key)"],
               "Cabinet": ["__init__(self)", "put(self, key, row)", "row_at(self, key)", "flush(self)", "join(self)",
                           "rows(self)", "tell(self, known)"],
               "Vault": ["__init__(self)", "known(self)", "keep(self, name, told)", "forget(self, name)",
                         "restored(self, name)"]},
    "states": {name: STATE for name in ("PlainState", "TotalState", "SessionState", "MeetState")},
    "snapshots": {"Snapshot": ["__init__(self, number)", "put_place(self, source, part, place, greatest)",
                               "put_groups(self, name, groups)", "groups_of(self, name)"],
                  "Store": ["__init__(self)", "begin(self, tasks)", "need(self, number, task)",
                            "tell_places(self, number, task, places)", "tell_groups(self, number, task, groups)",
                            "tell_given(self, number, task, records)", "drop(self)", "counts_of(self, sink)"]},
    "running": {"Task": ["__init__(self, name, number, state)"],
                "Reader": ["__init__(self, name, number, log, late)"],
                "Cluster": ["__init__(self, job, logs, late=0, many=1)", "send(self, task, record)", "moves(self)",
                            "act(self, choice)", "take(self, task, channel)", "begin_snapshot(self)",
                            "crash(self, many=None)", "scale(self, many)", "read_places(self)", "finish(self)",
                            "late_records(self)"]},
    "upgrades": {"Upgrade": ["__init__(self, job, logs, late=0, many=1)", "begin(self, job)", "drop(self)",
                             "act(self, choice)", "behind(self)", "switch(self)", "finish(self)"]},
    "sizing": {"Load": ["__init__(self, most, gives=100)"],
               "Machines": ["__init__(self, slots)", "used(self, machine)", "free(self)", "put(self, tasks)",
                            "best_for(self, task)", "change(self, slots)"]},
    "desk": {"Desk": ["__init__(self)", "enter(self, line)", "put(self, words)"]},
}

CONSTANTS = {
    ("rows", "KINDS"): ("int", "text"),
    ("rows", "LETTERS"): "\n" + "".join(chr(n) for n in range(32, 127) if n != 37),
    ("terms", "SUMS"): ("+", "-", "*", "/"),
    ("terms", "TESTS"): ("=", "<>", "<", "<=", ">", ">="),
    ("plans", "TOTALS"): ("count", "sum", "least", "greatest"),
    ("feeds", "MOST_KEPT"): 20,
    ("stores", "MOST_RUNS"): 6,
    ("stores", "MOST_MEMORY"): 8,
    ("states", "GROUPS"): 32,
}


def module(name):
    return importlib.import_module("streamstack." + name)


def top_level(name):
    """Return the names of functions and classes that a module's file defines itself."""
    with open(module(name).__file__, encoding="utf-8") as file:
        tree = ast.parse(file.read())
    return {node.name for node in tree.body if isinstance(node, (ast.FunctionDef, ast.ClassDef))}


class Interface(unittest.TestCase):
    def test_functions_stand_in_their_files_with_their_arguments(self):
        for name, told in FUNCTIONS.items():
            for line in told:
                function = line.split("(")[0]
                with self.subTest(module=name, function=function):
                    self.assertIn(function, top_level(name))
                    found = getattr(module(name), function)
                    self.assertEqual(function + str(inspect.signature(found)), line)

    def test_classes_define_their_methods_themselves(self):
        for name, classes in CLASSES.items():
            for class_name, methods in classes.items():
                self.assertIn(class_name, top_level(name))
                own = vars(getattr(module(name), class_name))
                for line in methods:
                    method = line.split("(")[0]
                    with self.subTest(module=name, of=class_name, method=method):
                        self.assertEqual(method + str(inspect.signature(own[method])), line)

    def test_constants(self):
        for (name, constant), value in CONSTANTS.items():
            self.assertEqual(getattr(module(name), constant), value)
            self.assertIs(type(getattr(module(name), constant)), type(value))

    def test_fields_are_there_from_the_beginning(self):
        shape = Shape((("a", "int"), ("b", "text")))
        self.assertEqual(shape.columns, (("a", "int"), ("b", "text")))
        reader = ByteReader((1, 2))
        self.assertEqual((reader.place, reader.data), (0, (1, 2)))
        self.assertEqual(Bag().weights, {})
        sources = Sources((("s", shape),))
        self.assertEqual(sources.shapes, {"s": shape})
        view = View(("source", "s"), sources)
        self.assertEqual((view.bag.weights, view.plan), ({}, ("source", "s")))
        feed = Feed(view)
        self.assertEqual((feed.number, feed.changes), (0, {}))
        follower = Follower()
        self.assertEqual((follower.number, follower.bag.weights), (0, {}))
        self.assertEqual(Guess({}, {}).values("s", "a"), 1)

    def test_fields_of_logs_and_their_copies(self):
        part = Part()
        self.assertEqual((part.kept, part.waiting, part.records, part.first), ((), (), [], 0))
        log = Log(2)
        self.assertIsInstance(log.parts, list)
        door = Door(log)
        self.assertIs(door.log, log)
        self.assertEqual(door.places, {})
        producer = Producer("p")
        self.assertEqual((producer.name, producer.next_number), ("p", 0))
        self.assertIs(DealDoor(log).log, log)
        mirror = Mirror(log, Log(2))
        self.assertEqual((mirror.each, mirror.places), (5, [0, 0]))
        copy = Copy()
        self.assertEqual((copy.records, copy.firm, copy.is_up), ([], 0, True))
        replicas = Replicas(("b", "a"), 1)
        self.assertEqual((replicas.leader, replicas.time, replicas.keeping), ("b", 1, ["a", "b"]))
        self.assertIsInstance(replicas.copies["a"], Copy)

    def test_fields_of_groups_times_and_jobs(self):
        group = Group(2, 3)
        self.assertEqual((group.many, group.heard, group.shares, group.generation, group.places), (2, {}, {}, 0, {}))
        self.assertEqual(Marks(("a",)).now, 0)
        job = Job()
        self.assertEqual((job.steps, job.shapes), ({}, {}))

    def test_fields_of_stores_and_states(self):
        cabinet, run = Cabinet(), Run(3, (((1,), None),))
        self.assertEqual((cabinet.memory, cabinet.runs, cabinet.next_number), ({}, [], 0))
        self.assertEqual((run.number, run.pairs), (3, (((1,), None),)))
        self.assertEqual(Vault().runs, {})
        job = parse_job("s = source a int\nr = source b int\ne = each of s\nt = total of s each 5 by 5 : count as n\n"
                        "q = session of s within 5 : count as n\nm = meet of s and r within 5\no = sink of e")
        for name in ("e", "t", "q", "m", "o"):
            state = state_of(job, name)
            self.assertIsInstance(state.shapes, list)
            self.assertEqual((state.late, state.shown(), state.come(9)), (0, {}, []))
        self.assertEqual(state_of(job, "m").sides, ({}, {}))

    def test_fields_of_what_runs(self):
        job, log = parse_job("s = source a int\no = sink of s"), Log(2)
        snapshot, store = Snapshot(5), Store()
        self.assertEqual((snapshot.number, snapshot.places, snapshot.kept), (5, {}, {}))
        self.assertEqual((store.last.number, store.under_way, store.counted), (0, None, []))
        cluster = Cluster(job, {"s": log})
        self.assertEqual((cluster.job, cluster.late, cluster.many), (job, 0, 1))
        self.assertIsInstance(cluster.store, Store)
        self.assertIsInstance(cluster.tasks[("s", 0)], Reader)
        self.assertIsInstance(cluster.tasks[("o", 0)], Task)
        reader, task = Reader("s", 1, log, 2), Task("o", 3, state_of(job, "o"))
        self.assertEqual((reader.name, reader.number, reader.log, reader.late, reader.parts), ("s", 1, log, 2, {}))
        self.assertEqual((task.name, task.number), ("o", 3))
        upgrade = Upgrade(job, {"s": log})
        self.assertEqual((upgrade.late, upgrade.many, upgrade.job, upgrade.live.job, upgrade.fresh),
                         (0, 1, job, job, None))
        load, machines, desk = Load(3), Machines({"m": 4}), Desk()
        self.assertEqual((load.most, load.gives, machines.slots, machines.places), (3, 100, {"m": 4}, {}))
        self.assertEqual((desk.job.steps, desk.views), ({}, {}))

    def test_functions_without_a_result_return_none(self):
        view = View(("source", "s"), Sources((("s", Shape((("a", "int"),))),)))
        self.assertIsNone(Bag().add((1,)))
        self.assertIsNone(Feed(view).change({}))
        log = Log(1)
        log.append((), (), 0)
        self.assertEqual([log.sync(), log.parts[0].sync(), log.parts[0].crash(0)], [None] * 3)
        replicas = Replicas(("a", "b"), 1)
        replicas.append((1,))
        self.assertEqual([replicas.drop_slow("b"), replicas.pull("b", 1), replicas.go_down("b"),
                          replicas.come_up("b")], [None] * 4)
        group = Group(2, 3)
        group.join("a", 0)
        self.assertEqual([group.need("a", 0), group.note("a", 1, 0, 1, 0), group.look(0), group.leave("a", 0)],
                         [None] * 4)
        door = DealDoor(log)
        door.begin("p", door.enter("p"))
        self.assertEqual([door.need("p", 1), door.drop("p", 1)], [None] * 2)
        self.assertIsNone(Registry().put_rule("s", "free"))
        self.assertTrue(Schema((("a", "int"),)).reads(Schema((("a", "int"),))))
        self.assertIsNone(Job().add("s", ("source", Shape((("a", "int"),)))))
        cabinet, vault = Cabinet(), Vault()
        self.assertEqual([cabinet.put((1,), (2,)), cabinet.flush(), cabinet.join(), vault.keep("a", cabinet.tell(())),
                          vault.forget("a")], [None] * 5)
        job, log = parse_job("s = source a int"), Log(1)
        cluster, upgrade = Cluster(job, {"s": log}), Upgrade(job, {"s": log})
        self.assertEqual([cluster.send(("s", 0), ((), (1,), 0)), cluster.crash(), upgrade.begin(job), upgrade.drop(),
                          cluster.store.drop()], [None] * 5)


if __name__ == "__main__":
    unittest.main()

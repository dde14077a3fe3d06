"""[18]: the lines of the desk and their answers; "error" changes nothing."""

import unittest

from streamstack.desk import Desk
from streamstack.errors import JobError, RowError
from streamstack.logs import Log

STEPS = ("sales = source cents int, shop text", "big = each of sales where cents >= 100",
         "sums = total of big each 10 by 10 : sum cents as total, count as n", "out = sink of sums", "all = sink of sales")


def state(desk):
    """Return all that a desk's answers hang on."""
    cluster = None
    if desk.cluster is not None:
        store = desk.cluster.store
        cluster = (desk.cluster.many, desk.cluster.late, desk.cluster.closed, desk.cluster.moves(),
                   desk.cluster.read_places(), list(store.counted), store.last.number, sorted(store.lacking))
    logs = {name: [list(part.records) for part in log.parts] for name, log in desk.logs.items()}
    views = {name: dict(view.bag.weights) for name, view in desk.views.items()}
    return (list(desk.job.steps), logs, cluster, views, {name: dict(bag.weights) for name, bag in desk.bags.items()})


class Desks(unittest.TestCase):
    def desk(self, *lines):
        desk = Desk()
        for line in STEPS + lines:
            self.assertNotEqual(desk.enter(line), "error", line)
        return desk

    def errors(self, desk, *lines):
        before = state(desk)
        for line in lines:
            with self.subTest(line=line):
                self.assertEqual(desk.enter(line), "error")
                self.assertEqual(state(desk), before)

    def answers(self, desk, *pairs):
        for line, wanted in pairs:
            self.assertEqual(desk.enter(line), wanted, line)


class Steps(Desks):
    def test_a_fresh_desk(self):
        desk = Desk()
        self.assertEqual((desk.job.steps, desk.views), ({}, {}))
        self.errors(desk, "run 1 0", "go 1 0", "finish", "show out", "shape out", "put s 1 1", "view v pick * from s")

    def test_steps(self):
        desk = Desk()
        self.answers(desk, *[(line, "step") for line in STEPS])
        self.answers(desk, ("  x=key   of sales by shop  # a remark", "step"), ("show = source a int", "step"))
        self.assertEqual(list(desk.job.steps), ["sales", "big", "sums", "out", "all", "x", "show"])
        self.assertEqual(desk.job.steps["x"], ("key", "sales", ("shop",)))

    def test_steps_that_cannot_be(self):
        self.errors(self.desk(), "out = sink of big", "x = sink of q", "x = sink of out", "X = sink of big", "= sink of big",
                    "x =", "x = find of big", "x y = sink of big", "x = each of big where cents", "x = source a number",
                    "# x = sink of big", "x # = sink of big", "x = sink of big\ny = sink of big",
                    "x = total of big each 5 by 6 : count as n")

    def test_not_while_a_job_runs(self):
        desk = self.desk("run 1 0")
        self.errors(desk, "x = sink of big", "x = source a int")
        desk.enter("finish")
        self.errors(desk, "x = sink of big")

    def test_shapes(self):
        desk = self.desk()
        self.answers(desk, ("shape sales", "cents int, shop text"), ("shape out", "begin int, end int, total int, n int"),
                     (" shape  big ", "cents int, shop text"))
        self.errors(desk, "shape", "shape q", "shape sales big", "shape 1")
        self.answers(desk, ("run 1 0", "run"), ("shape all", "cents int, shop text"))


class Putting(Desks):
    def test_part_and_place_with_the_first_value_as_key(self):
        desk = self.desk()
        places = [0, 0]
        for number in (250, 30, -5, 0, 250, 12345678901234567890):
            part = Log(2).part_of((number,))
            self.answers(desk, (f"put sales 7 {number} north", f"{part} {places[part]}"))
            self.assertEqual(desk.logs["sales"].parts[part].records[-1], ((number,), (number, "north"), 7))
            places[part] += 1
        self.answers(desk, ("names = source who text", "step"))
        part = Log(2).part_of(("ann",))
        self.answers(desk, ("put names 0 ann", f"{part} 0"), ("put  names  12345678901   ann ", f"{part} 1"))
        self.assertEqual(desk.logs["names"].parts[part].records[1], (("ann",), ("ann",), 12345678901))

    def test_whole_numbers_and_texts(self):
        desk = self.desk("t = source w text")
        for word in ("a", "-", "--5", "1.5", "+5", "5a", "a=b", "'x'", "#", "1,5"):
            self.assertNotEqual(desk.enter(f"put t 0 {word}"), "error", word)
        self.assertEqual({row for part in desk.logs["t"].parts for _, row, _ in part.records},
                         {("a",), ("-",), ("--5",), ("1.5",), ("+5",), ("5a",), ("a=b",), ("'x'",), ("#",), ("1,5",)})
        self.errors(desk, "put t 0 5", "put t 0 -5", "put t 0 " + chr(37), "put t 0 \u00e9", "put t 0 " + "9" * 5000)

    def test_rows_that_do_not_fit(self):
        self.errors(self.desk(), "put", "put sales", "put sales 1", "put sales 1 5", "put sales 1 5 x y", "put sales 1 x 5",
                    "put sales 1 x y", "put sales 1 5 7", "put q 1 5 x", "put big 1 5 x", "put out 1 5 x",
                    "put Sales 1 5 x")

    def test_times_that_cannot_be(self):
        self.errors(self.desk(), "put sales -1 5 x", "put sales x 5 x", "put sales 1.5 5 x", "put sales +1 5 x",
                    "put sales 1- 5 x")

    def test_put_by_words(self):
        desk = self.desk()
        part = Log(2).part_of((5,))
        self.assertEqual(desk.put(["put", "sales", "3", "5", "x"]), f"{part} 0")
        for words, error in ((["put", "sales", "-1", "5", "x"], JobError), (["put", "q", "1", "5", "x"], JobError),
                             (["put", "sales", "1", "x", "x"], RowError)):
            before = state(desk)
            with self.assertRaises(error):
                desk.put(words)
            self.assertEqual(state(desk), before)

    def test_while_a_job_runs_and_behind_its_end(self):
        desk = self.desk("run 2 0", "put sales 3 100 x", "go 500 0", "put sales 12 300 x")
        self.answers(desk, ("finish", "all 2 out 2"))
        self.errors(desk, "put sales 13 5 x")


class Views(Desks):
    def test_how_many_different_rows_and_what_they_are(self):
        desk = self.desk("put sales 3 250 north", "put sales 4 -5 south", "put sales 4 250 north", "put sales 1 30 a")
        self.answers(desk, ("view v pick * from sales", "view 3"), ("view w pick once shop from sales where cents > 0",
                                                                   "view 2"),
                     ("view n pick count() as n, sum(cents) as c from sales", "view 1"),
                     ("view none pick cents from sales where cents = 7", "view 0"),
                     ("show v", "-5 south\n30 a\n250 north\n250 north"), ("show w", "a\nnorth"), ("show n", "4 525"),
                     (" show  none ", ""))
        self.assertEqual(sorted(desk.views), ["n", "none", "v", "w"])

    def test_kept_up_to_date(self):
        desk = self.desk("view v pick shop, sum(cents) as c from sales group by shop", "put sales 1 10 b", "put sales 1 5 a")
        self.answers(desk, ("show v", "a 5\nb 10"))
        desk.enter("put sales 0 7 b")
        self.answers(desk, ("show v", "a 5\nb 17"), ("run 1 0", "run"), ("view x pick * from sales", "view 3"),
                     ("show x", "5 a\n7 b\n10 b"))
        self.assertNotEqual(desk.enter("put sales 0 7 c"), "error")
        self.answers(desk, ("show v", "a 5\nb 17\nc 7"), ("show x", "5 a\n7 b\n7 c\n10 b"))

    def test_texts_within_queries_keep_their_blanks(self):
        desk = self.desk("put sales 1 5 a")
        self.answers(desk, ("view  v  pick shop & '  x = y ' & shop as s from sales", "view 1"), ("show v", "a  x = y a"))

    def test_views_that_cannot_be(self):
        desk = self.desk("put sales 1 5 a", "view v pick * from sales")
        self.errors(desk, "view", "view v", "view w", "view v pick * from sales", "view w pick * from big",
                    "view w pick * from q", "view w pick x from sales", "view W pick * from sales", "view w pick",
                    "view w pick * from sales where cents", "view pick * from sales")

    def test_showing(self):
        desk = self.desk("put sales 1 5 a")
        self.errors(desk, "show", "show q", "show out", "show sales", "show v w")
        desk.enter("run 1 0")
        self.answers(desk, ("show out", ""), ("show all", ""))
        self.errors(desk, "show q", "show sales", "show out all")


class Running(Desks):
    def test_what_counts_in_order(self):
        desk = self.desk("put sales 3 250 b", "put sales 5 100 a", "run 1 0")
        self.answers(desk, ("go 5000 0", "go 8"), ("show all", ""), ("snapshot", "snapshot 1"))
        self.errors(desk, "snapshot", "scale 2")
        self.assertNotEqual(desk.enter("go 5000 3"), "error")
        rows = [row for part in desk.logs["sales"].parts for _, row, _ in part.records]
        self.answers(desk, ("show all", "\n".join(f"{cents} {shop}" for cents, shop in rows)), ("show out", ""),
                     ("snapshot", "snapshot 2"), ("finish", "all 2 out 2"))
        self.assertEqual(sorted(desk.enter("show out").split("\n")), ["0 10 100 1", "0 10 250 1"])

    def test_running(self):
        desk = self.desk()
        self.errors(desk, "run", "run 1", "run 0 0", "run 9 0", "run 1 -1", "run x 0", "run 1 0 0", "run 1 x", "go 1 0",
                    "snapshot", "crash 1", "scale 1", "finish")
        self.answers(desk, ("run 8 12345678901", "run"))
        self.assertEqual((desk.cluster.many, desk.cluster.late), (8, 12345678901))
        self.errors(desk, "run 8 0", "run 1 0")
        self.answers(desk, ("finish", "all 0 out 0"))
        self.errors(desk, "run 1 0")

    def test_going(self):
        desk = self.desk("put sales 3 250 b", "put sales 5 99 a", "run 1 0")
        self.assertNotEqual(Log(2).part_of((250,)), Log(2).part_of((99,)))
        self.answers(desk, ("go 0 0", "go 0"), ("go 1 1", "go 1"))
        self.assertEqual(desk.cluster.read_places()[("sales", 1)][0], 1)
        self.errors(desk, "go", "go 1", "go 5001 0", "go -1 0", "go 1 -1", "go x 0", "go 1 x", "go 1 0 0",
                    "go " + "9" * 5000 + " 0")
        desks = [self.desk(*[f"put sales {n} {n * 50} x" for n in range(8)], "run 3 0") for _ in range(3)]
        self.answers(desks[0], ("go 12 5", "go 12"))
        for other, by in ((desks[1], 7), (desks[2], 1)):
            self.assertNotIn(None, [other.cluster.act(5 + by * n) for n in range(12)])
        self.assertEqual(state(desks[0]), state(desks[1]))
        self.assertNotEqual(state(desks[0]), state(desks[2]))
        happened = int(desk.enter("go 5000 2").split()[1])
        self.assertTrue(0 < happened < 5000)
        self.answers(desk, ("go 5000 2", "go 0"))

    def test_at_most_5000_moves(self):
        desk = self.desk("run 1 0")
        for number in range(2600):
            desk.enter(f"put sales {number} 1 x")
        self.answers(desk, ("go 5000 0", "go 5000"))
        self.assertNotEqual(desk.enter("go 1 0"), "go 0")

    def test_crashing_and_scaling(self):
        desk = self.desk("put sales 3 250 b", "put sales 5 100 a", "put sales 14 700 a", "run 2 0", "go 3 0")
        self.errors(desk, "crash", "crash 0", "crash 9", "crash -1", "crash x", "crash 1 1", "scale", "scale 0", "scale 9",
                    "scale -1", "scale x", "scale 1 1", "snapshot 1", "snapshot x", "finish 1")
        self.answers(desk, ("scale 3", "scale"), ("crash 1", "crash"), ("snapshot", "snapshot 2"), ("crash 8", "crash"),
                     ("snapshot", "snapshot 2"))
        self.assertEqual((desk.cluster.many, len(desk.cluster.tasks)), (8, 40))
        self.errors(desk, "scale 1", "snapshot")
        self.answers(desk, ("finish", "all 3 out 3"))

    def test_finishing_and_what_may_follow_it(self):
        desk = self.desk("put sales 3 250 b", "put sales 5 99 a", "view v pick cents from sales", "run 2 0")
        self.answers(desk, ("finish", "all 2 out 1"), ("show out", "0 10 250 1"), ("show v", "99\n250"))
        self.errors(desk, "put sales 6 99 a", "x = sink of sales", "run 1 0")
        self.answers(desk, ("finish", "all 2 out 1"), ("go 5 0", "go 0"), ("crash 1", "crash"), ("scale 3", "scale"),
                     ("view w pick * from sales", "view 2"), ("shape out", "begin int, end int, total int, n int"),
                     ("finish", "all 2 out 1"), ("show out", "0 10 250 1"))

    def test_a_job_without_sinks(self):
        desk = Desk()
        self.answers(desk, ("s = source a int", "step"), ("run 1 0", "run"), ("put s 1 5", f"{Log(2).part_of((5,))} 0"),
                     ("finish", ""))

    def test_blanks_empty_lines_and_unknown_words(self):
        desk = self.desk("run 1 0")
        self.errors(desk, "", " ", "   ", "\n", "#", "# remark", "what", "what is it", "Run 1 0", "PUT sales 1 5 x",
                    "puts sales 1 5 x", "sales", "go1 0", "5", "'", "=", "==", "finish it")
        self.answers(desk, ("  snapshot  ", "snapshot 1"), (" go   0   7 ", "go 0"), (" finish ", "all 0 out 0"))


if __name__ == "__main__":
    unittest.main()

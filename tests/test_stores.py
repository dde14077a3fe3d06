"""[23]: cabinets, runs, vaults, what is told since the last telling, and cabinets made anew."""

import random
import unittest

from streamstack.errors import SnapshotError
from streamstack.stores import MOST_MEMORY, MOST_RUNS, Cabinet, Run, Vault


def key(number):
    return (f"k{number}",)


def state(cabinet):
    return (dict(cabinet.memory), [(run.number, run.pairs) for run in cabinet.runs], cabinet.next_number)


def numbers(cabinet):
    return [run.number for run in cabinet.runs]


def vault_state(vault):
    return ({number: run.pairs for number, run in vault.runs.items()}, vault.known(),
            [state(vault.restored(name)) for name in sorted(vault.tellings)])


def with_runs(many, begin=0):
    """Return a cabinet of so many runs, each of a key of its own."""
    cabinet = Cabinet()
    for number in range(begin, begin + many):
        cabinet.put(key(number), (number,))
        cabinet.flush()
    return cabinet


class Runs(unittest.TestCase):
    def test_find(self):
        run = Run(3, (((1,), (5,)), ((2,), None), (("a",), ())))
        self.assertEqual((run.number, run.pairs), (3, (((1,), (5,)), ((2,), None), (("a",), ()))))
        self.assertEqual([run.find(one) for one in ((1,), (2,), ("a",), (3,), ())],
                         [(True, (5,)), (True, None), (True, ()), (False, None), (False, None)])


class Memory(unittest.TestCase):
    def test_a_fresh_cabinet(self):
        self.assertEqual((MOST_RUNS, MOST_MEMORY), (6, 8))
        cabinet = Cabinet()
        self.assertEqual(state(cabinet), ({}, [], 0))
        self.assertIsNone(cabinet.row_at(key(1)))
        self.assertEqual(cabinet.rows(), ())

    def test_putting_and_putting_again(self):
        cabinet = Cabinet()
        self.assertIsNone(cabinet.put(key(1), (1,)))
        cabinet.put(key(2), ())
        cabinet.put(key(1), (3,))
        self.assertEqual((cabinet.row_at(key(1)), cabinet.row_at(key(2)), cabinet.row_at(key(3))), ((3,), (), None))
        self.assertEqual(cabinet.memory, {key(1): (3,), key(2): ()})
        self.assertEqual(cabinet.rows(), ((key(1), (3,)), (key(2), ())))

    def test_taking_away_what_is_there_and_what_is_not(self):
        cabinet = with_runs(1)
        cabinet.put(key(0), None)
        cabinet.put(key(5), None)
        self.assertEqual((cabinet.row_at(key(0)), cabinet.row_at(key(5)), cabinet.rows()), (None, None, ()))
        cabinet.flush()
        self.assertEqual(cabinet.runs[0].pairs, ((key(0), None), (key(5), None)))
        self.assertEqual((cabinet.row_at(key(0)), cabinet.rows()), (None, ()))
        cabinet.put(key(0), (7,))
        self.assertEqual((cabinet.row_at(key(0)), cabinet.rows()), ((7,), ((key(0), (7,)),)))

    def test_eight_keys_and_nine(self):
        cabinet = Cabinet()
        for number in (3, 1, 2, 7, 5, 4, 6):
            cabinet.put(key(number), (number,))
        cabinet.put(key(3), (33,))
        self.assertEqual((len(cabinet.memory), cabinet.runs, cabinet.next_number), (7, [], 0))
        cabinet.put(key(0), None)
        self.assertEqual((cabinet.memory, numbers(cabinet), cabinet.next_number), ({}, [0], 1))
        self.assertEqual([one for one, _ in cabinet.runs[0].pairs], [key(number) for number in range(8)])
        self.assertEqual((cabinet.row_at(key(3)), cabinet.row_at(key(0))), ((33,), None))
        cabinet.put(key(8), (8,))
        self.assertEqual((cabinet.memory, numbers(cabinet)), ({key(8): (8,)}, [0]))

    def test_pairs_ascend_numbers_ahead_of_texts(self):
        cabinet = Cabinet()
        for one in (("b",), (10,), ("a", 2), (2,), ("",)):
            cabinet.put(one, (1,))
        cabinet.flush()
        wanted = ((2,), (10,), ("",), ("a", 2), ("b",))
        self.assertEqual(tuple(one for one, _ in cabinet.runs[0].pairs), wanted)
        self.assertEqual(tuple(one for one, _ in cabinet.rows()), wanted)


class Joining(unittest.TestCase):
    def test_flushing_and_joining_with_nothing_there(self):
        cabinet = Cabinet()
        self.assertEqual([cabinet.flush(), cabinet.join(), state(cabinet)], [None, None, ({}, [], 0)])
        cabinet = with_runs(2)
        before = state(cabinet)
        cabinet.flush()
        self.assertEqual(state(cabinet), before)

    def test_six_runs_and_seven(self):
        cabinet = with_runs(6)
        self.assertEqual((numbers(cabinet), cabinet.next_number), ([5, 4, 3, 2, 1, 0], 6))
        cabinet.put(key(2), None)
        cabinet.put(key(9), (9,))
        cabinet.flush()
        self.assertEqual((numbers(cabinet), cabinet.next_number, cabinet.memory), ([7], 8, {}))
        self.assertEqual(cabinet.runs[0].pairs, tuple((key(n), (n,)) for n in (0, 1, 3, 4, 5, 9)))

    def test_a_full_memory_is_the_seventh_run(self):
        cabinet = with_runs(6)
        for number in range(8):
            cabinet.put(key(number), (number * 2,))
        self.assertEqual((numbers(cabinet), cabinet.next_number, cabinet.memory), ([7], 8, {}))
        self.assertEqual(cabinet.rows(), tuple((key(n), (n * 2,)) for n in range(8)))

    def test_the_memory_is_joined_too_and_the_newest_pair_counts(self):
        cabinet = with_runs(3)
        cabinet.put(key(1), (11,))
        cabinet.flush()
        cabinet.put(key(1), (12,))
        cabinet.put(key(0), None)
        cabinet.join()
        self.assertEqual(state(cabinet), ({}, [(4, ((key(1), (12,)), (key(2), (2,))))], 5))
        cabinet.join()
        self.assertEqual((numbers(cabinet), cabinet.next_number), ([5], 6))

    def test_no_run_is_left_if_all_were_taken_away(self):
        cabinet = with_runs(2)
        cabinet.put(key(0), None)
        cabinet.flush()
        cabinet.put(key(1), None)
        cabinet.join()
        self.assertEqual(state(cabinet), ({}, [], 3))
        cabinet.put(key(5), (5,))
        cabinet.flush()
        self.assertEqual(numbers(cabinet), [3])


class Telling(unittest.TestCase):
    def told(self, cabinet, known):
        told, runs = cabinet.tell(known)
        self.assertIsInstance(told, tuple)
        self.assertIsInstance(runs, tuple)
        return told, [run.number for run in runs]

    def test_none_some_and_all_runs_are_known(self):
        self.assertEqual(self.told(Cabinet(), ()), ((), []))
        cabinet = with_runs(3)
        cabinet.put(key(9), (9,))
        self.assertEqual(self.told(cabinet, ()), ((3, 2, 1, 0), [3, 2, 1, 0]))
        self.assertEqual(cabinet.memory, {})
        self.assertEqual(self.told(cabinet, (2, 0, 17)), ((3, 2, 1, 0), [3, 1]))
        self.assertEqual(self.told(cabinet, (0, 1, 2, 3)), ((3, 2, 1, 0), []))


class Vaults(unittest.TestCase):
    def test_a_fresh_vault(self):
        vault = Vault()
        self.assertEqual((vault.runs, vault.known()), ({}, ()))
        for name in ("a", ""):
            for refused in (vault.forget, vault.restored):
                with self.assertRaises(SnapshotError):
                    refused(name)

    def test_keeping_what_changed_since(self):
        vault, cabinet = Vault(), with_runs(2)
        self.assertIsNone(vault.keep("a", cabinet.tell(vault.known())))
        cabinet.put(key(7), (7,))
        told = cabinet.tell(vault.known())
        self.assertEqual([run.number for run in told[1]], [2])
        vault.keep("b", told)
        self.assertEqual((vault.known(), sorted(vault.runs)), ((0, 1, 2), [0, 1, 2]))
        self.assertEqual(vault.restored("a").rows(), ((key(0), (0,)), (key(1), (1,))))
        self.assertEqual(vault.restored("b").rows(), cabinet.rows())
        self.assertEqual(numbers(vault.restored("b")), [2, 1, 0])

    def test_a_name_that_is_taken_and_runs_that_are_missing(self):
        vault, cabinet = Vault(), with_runs(2)
        vault.keep("a", cabinet.tell(()))
        cabinet.put(key(7), (7,))
        before = vault_state(vault)
        for name, told in (("a", cabinet.tell(())), ("b", cabinet.tell((2,))), ("b", ((5,), ())),
                           ("b", ((0, 1, 9), cabinet.tell(())[1]))):
            with self.assertRaises(SnapshotError):
                vault.keep(name, told)
            self.assertEqual(vault_state(vault), before)
        vault.keep("b", cabinet.tell((0, 1)))
        self.assertEqual(vault.known(), (0, 1, 2))

    def test_runs_that_are_told_but_not_of_the_telling_are_not_kept(self):
        vault, cabinet = Vault(), with_runs(3)
        vault.keep("a", ((1,), cabinet.tell(())[1]))
        self.assertEqual((vault.known(), vault.restored("a").next_number), ((1,), 2))

    def test_forgetting(self):
        vault, cabinet = Vault(), with_runs(2)
        vault.keep("a", cabinet.tell(vault.known()))
        cabinet.put(key(7), (7,))
        vault.keep("b", cabinet.tell(vault.known()))
        cabinet.join()
        vault.keep("c", cabinet.tell(vault.known()))
        self.assertEqual(vault.known(), (0, 1, 2, 3))
        self.assertIsNone(vault.forget("a"))
        self.assertEqual(vault.known(), (0, 1, 2, 3))
        before = vault_state(vault)
        with self.assertRaises(SnapshotError):
            vault.forget("a")
        with self.assertRaises(SnapshotError):
            vault.restored("a")
        self.assertEqual(vault_state(vault), before)
        vault.forget("b")
        self.assertEqual((vault.known(), vault.restored("c").rows()), ((3,), cabinet.rows()))
        vault.forget("c")
        self.assertEqual(vault.known(), ())
        vault.keep("a", cabinet.tell(vault.known()))
        self.assertEqual(vault.known(), (3,))

    def test_a_telling_of_nothing(self):
        vault = Vault()
        vault.keep("a", Cabinet().tell(()))
        self.assertEqual(state(vault.restored("a")), ({}, [], 0))
        with self.assertRaises(SnapshotError):
            vault.keep("a", ((), ()))


class MadeAnew(unittest.TestCase):
    def test_numbers_go_on_above_all_that_were_ever_kept(self):
        vault, cabinet = Vault(), with_runs(2)
        vault.keep("a", cabinet.tell(vault.known()))
        cabinet.put(key(2), (2,))
        vault.keep("b", cabinet.tell(vault.known()))
        vault.forget("b")
        anew = vault.restored("a")
        self.assertEqual((anew.memory, numbers(anew), anew.next_number), ({}, [1, 0], 3))
        anew.put(key(5), (5,))
        told = anew.tell(vault.known())
        self.assertEqual((told[0], [run.number for run in told[1]]), ((3, 1, 0), [3]))
        vault.keep("c", told)
        self.assertEqual(vault.restored("c").rows(), ((key(0), (0,)), (key(1), (1,)), (key(5), (5,))))
        self.assertEqual(vault.restored("a").next_number, 4)

    def test_numbers_of_what_was_forgotten_do_not_come_again(self):
        vault, cabinet = Vault(), with_runs(4)
        told = cabinet.tell(())
        vault.keep("a", told)
        vault.forget("a")
        vault.keep("b", ((1, 0), told[1]))
        self.assertEqual((vault.known(), vault.restored("b").next_number), ((0, 1), 4))

    def test_each_is_its_own(self):
        vault, cabinet = Vault(), with_runs(2)
        vault.keep("a", cabinet.tell(()))
        one, other = vault.restored("a"), vault.restored("a")
        one.put(key(0), None)
        one.join()
        cabinet.join()
        self.assertEqual((numbers(one), numbers(other), other.rows()), ([2], [1, 0], cabinet.rows()))
        self.assertEqual(numbers(vault.restored("a")), [1, 0])


class Drawn(unittest.TestCase):
    def test_cabinets_that_go_down_and_are_made_anew(self):
        for seed in range(60):
            chance = random.Random(seed)
            vault, cabinet, wanted, tellings = Vault(), Cabinet(), {}, {}
            ever = -1
            for step in range(120):
                what = chance.randrange(24)
                if what < 17:
                    one = (chance.randrange(14),)
                    row = None if chance.random() < 0.3 else (step,)
                    cabinet.put(one, row)
                    wanted[one] = row
                elif what == 17:
                    cabinet.flush()
                elif what == 18:
                    cabinet.join()
                elif what < 21:
                    vault.keep(step, cabinet.tell(vault.known()))
                    tellings[step] = dict(wanted)
                    ever = max([ever] + list(vault.known()))
                elif what == 21 and tellings:
                    name = chance.choice(list(tellings))
                    vault.forget(name)
                    del tellings[name]
                elif what == 22 and tellings:
                    name = chance.choice(list(tellings))
                    cabinet, wanted = vault.restored(name), dict(tellings[name])
                    self.assertEqual(cabinet.next_number, ever + 1)
                present = {one: row for one, row in wanted.items() if row is not None}
                self.assertEqual(cabinet.rows(), tuple(sorted(present.items())))
                self.assertEqual([cabinet.row_at((n,)) for n in range(14)], [wanted.get((n,)) for n in range(14)])
                self.assertLessEqual(len(cabinet.runs), 6)
                self.assertLessEqual(len(cabinet.memory), 7)
                self.assertEqual(numbers(cabinet), sorted(set(numbers(cabinet)), reverse=True))
                self.assertTrue(all(number < cabinet.next_number for number in numbers(cabinet)))
                for name, rows in tellings.items():
                    left = {one: row for one, row in rows.items() if row is not None}
                    self.assertEqual(vault.restored(name).rows(), tuple(sorted(left.items())))


if __name__ == "__main__":
    unittest.main()

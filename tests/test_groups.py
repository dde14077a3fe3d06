"""[8]: members who share parts, generations, silence, and how far each part was read."""

import random
import unittest

from streamstack.errors import GroupError
from streamstack.groups import Group, shares_of


def state(group):
    return (dict(group.heard), dict(group.shares), group.generation, dict(group.places))


class Shares(unittest.TestCase):
    def test_no_members_one_and_more_than_parts(self):
        self.assertEqual(shares_of((), 3), {})
        self.assertEqual(shares_of((), 3, {"a": (0, 1, 2)}), {})
        self.assertEqual(shares_of(("a",), 3), {"a": (0, 1, 2)})
        self.assertEqual(shares_of(("c", "a", "b"), 2), {"a": (0,), "b": (1,), "c": ()})
        self.assertEqual(shares_of(("a",), 0), {"a": ()})

    def test_parts_go_to_the_member_with_the_fewest_the_first_by_name(self):
        self.assertEqual(shares_of(("b", "a"), 5), {"a": (0, 2, 4), "b": (1, 3)})
        self.assertEqual(shares_of(("b", "a", "c"), 4, {"b": (0,)}), {"a": (1, 3), "b": (0,), "c": (2,)})

    def test_members_keep_their_parts_the_least_first(self):
        self.assertEqual(shares_of(("a", "b"), 4, {"a": (3, 1, 0)}), {"a": (0, 1), "b": (2, 3)})
        self.assertEqual(shares_of(("a", "b", "c"), 6, {"a": (0, 1, 5), "b": (2, 3, 4)}),
                         {"a": (0, 1), "b": (2, 3), "c": (4, 5)})
        self.assertEqual(shares_of(("a", "c"), 4, {"a": (1,), "b": (0, 2), "c": (3,)}), {"a": (0, 1), "c": (2, 3)})

    def test_one_more_is_kept_by_those_who_had_more(self):
        self.assertEqual(shares_of(("a", "b"), 5, {"a": (0, 1), "b": (2, 3, 4)}), {"a": (0, 1), "b": (2, 3, 4)})
        self.assertEqual(shares_of(("a", "b", "c"), 7, {"a": (0, 1, 2), "b": (3, 4, 5, 6)}),
                         {"a": (0, 1), "b": (3, 4, 5), "c": (2, 6)})
        self.assertEqual(shares_of(("a", "b", "c"), 7, {"a": (0, 1, 2, 3), "b": (4, 5, 6)}),
                         {"a": (0, 1, 2), "b": (4, 5), "c": (3, 6)})
        self.assertEqual(shares_of(("c", "b", "a"), 4, {"a": (0, 1), "b": (2, 3)}),
                         {"a": (0, 1), "b": (2,), "c": (3,)})

    def test_what_stood_before_and_cannot_be(self):
        self.assertEqual(shares_of(("a", "b"), 2, {"a": (0, 2, 5), "b": (0, 1)}), {"a": (0,), "b": (1,)})
        self.assertEqual(shares_of(("a", "b"), 2, {"a": (2,)}), {"a": (0,), "b": (1,)})
        self.assertEqual(shares_of(("a", "b"), 4, {"a": (1, 1, 2), "b": ()}), {"a": (1, 2), "b": (0, 3)})

    def test_the_table_before_is_not_changed(self):
        old = {"a": (0, 1, 2)}
        shares_of(("a", "b"), 3, old)
        self.assertEqual(old, {"a": (0, 1, 2)})

    def test_over_drawn_members(self):
        for seed in range(200):
            chance = random.Random(seed)
            many = chance.randrange(1, 17)
            old = {}
            for _ in range(8):
                members = tuple(chance.sample("abcdefg", chance.randrange(1, 8)))
                fresh = shares_of(members, many, old)
                self.assertEqual(sorted(fresh), sorted(members))
                self.assertEqual(sorted(part for parts in fresh.values() for part in parts), list(range(many)))
                sizes = [len(parts) for parts in fresh.values()]
                self.assertLessEqual(max(sizes) - min(sizes), 1)
                self.assertEqual([parts for parts in fresh.values() if parts != tuple(sorted(parts))], [])
                stays = sum(len(set(fresh[name]) & set(old.get(name, ()))) for name in members)
                self.assertEqual(stays, self.most_that_can_stay(members, many, old))
                old = fresh

    def most_that_can_stay(self, members, many, old):
        """Return how many parts can be where they were if none has two more than another."""
        left = many % len(members)
        found = 0
        for had in sorted((len(old.get(name, ())) for name in members), reverse=True):
            found += min(had, many // len(members) + (1 if left > 0 else 0))
            left -= 1
        return found


class Members(unittest.TestCase):
    def test_a_fresh_group(self):
        group = Group(3, 5)
        self.assertEqual((group.many, group.heard, group.shares, group.generation, group.places), (3, {}, {}, 0, {}))

    def test_groups_that_cannot_be(self):
        for many, length in ((0, 5), (-1, 5), (3, 0), (3, -1)):
            with self.assertRaises(GroupError):
                Group(many, length)

    def test_coming_and_going(self):
        group = Group(4, 10)
        self.assertEqual(group.join("b", 0), 1)
        self.assertEqual(group.shares, {"b": (0, 1, 2, 3)})
        self.assertEqual(group.join("a", 1), 2)
        self.assertEqual(group.shares, {"a": (2, 3), "b": (0, 1)})
        self.assertEqual(group.join("c", 2), 3)
        self.assertEqual(group.shares, {"a": (2, 3), "b": (0,), "c": (1,)})
        self.assertIsNone(group.leave("a", 3))
        self.assertEqual((group.shares, group.generation), ({"b": (0, 2), "c": (1, 3)}, 4))
        self.assertEqual(group.heard, {"b": 0, "c": 2})
        group.leave("b", 3)
        group.leave("c", 3)
        self.assertEqual((group.shares, group.generation), ({}, 6))

    def test_joining_twice(self):
        group = Group(2, 10)
        group.join("a", 0)
        before = state(group)
        with self.assertRaises(GroupError):
            group.join("a", 3)
        self.assertEqual(state(group), before)

    def test_one_who_is_not_there(self):
        group = Group(2, 10)
        group.join("a", 0)
        before = state(group)
        for call in (lambda: group.leave("b", 1), lambda: group.need("b", 1), lambda: group.beat("b", 1),
                     lambda: group.note("b", 1, 0, 1, 1)):
            with self.assertRaises(GroupError):
                call()
        self.assertEqual(state(group), before)

    def test_being_heard(self):
        group = Group(2, 10)
        group.join("a", 0)
        self.assertIsNone(group.need("a", 9))
        self.assertEqual(group.heard, {"a": 0})
        self.assertEqual(group.beat("a", 9), (1, (0, 1)))
        self.assertEqual(group.heard, {"a": 9})
        self.assertEqual(group.beat("a", 18), (1, (0, 1)))


class Silence(unittest.TestCase):
    def test_of_just_the_length_and_of_one_less(self):
        group = Group(2, 5)
        group.join("a", 3)
        self.assertIsNone(group.look(7))
        self.assertEqual((group.heard, group.generation), ({"a": 3}, 1))
        group.look(8)
        self.assertEqual((group.heard, group.shares, group.generation), ({}, {}, 2))

    def test_a_length_of_1(self):
        group = Group(2, 1)
        group.join("a", 3)
        group.look(3)
        self.assertEqual(group.heard, {"a": 3})
        group.look(4)
        self.assertEqual(group.heard, {})

    def test_one_look_lets_several_go_in_one_change(self):
        group = Group(4, 5)
        for time, name in enumerate("abcd"):
            group.join(name, time)
        group.look(7)
        self.assertEqual((group.heard, group.generation), ({"d": 3}, 5))
        self.assertEqual(group.shares, {"d": (0, 1, 2, 3)})
        group.look(7)
        self.assertEqual(group.generation, 5)

    def test_each_call_finds_the_silent_ones(self):
        calls = (lambda group: group.join("c", 6), lambda group: group.leave("b", 6),
                 lambda group: group.need("b", 6), lambda group: group.beat("b", 6),
                 lambda group: group.note("b", 3, 0, 1, 6))
        for number, call in enumerate(calls):
            group = Group(2, 5)
            group.join("a", 1)
            group.join("b", 2)
            call(group)
            with self.subTest(number=number):
                self.assertNotIn("a", group.heard)
                self.assertEqual(group.generation, (4, 4, 3, 3, 3)[number])

    def test_a_call_that_is_refused_and_finds_somebody_silent(self):
        calls = (lambda group: group.join("b", 6), lambda group: group.leave("a", 6),
                 lambda group: group.need("a", 6), lambda group: group.beat("a", 6), lambda group: group.beat("x", 6),
                 lambda group: group.note("a", 2, 0, 1, 6), lambda group: group.note("b", 2, 0, 1, 6),
                 lambda group: group.note("b", 3, 0, -1, 6))
        for number, call in enumerate(calls):
            group = Group(2, 5)
            group.join("a", 1)
            group.join("b", 2)
            with self.subTest(number=number):
                with self.assertRaises(GroupError):
                    call(group)
                self.assertEqual(state(group), ({"b": 2}, {"b": (0, 1)}, 3, {}))

    def test_one_who_was_silent_may_join_again(self):
        group = Group(2, 5)
        group.join("a", 0)
        self.assertEqual(group.join("a", 5), 3)
        self.assertEqual(group.heard, {"a": 5})


class Noting(unittest.TestCase):
    def test_how_far_a_part_was_read(self):
        group = Group(2, 10)
        group.join("a", 0)
        group.join("b", 0)
        self.assertIsNone(group.note("a", 2, 0, 4, 1))
        self.assertEqual(group.places, {0: 4})
        group.note("a", 2, 0, 4, 1)
        group.note("a", 2, 0, 6, 1)
        group.note("b", 2, 1, 0, 1)
        self.assertEqual(group.places, {0: 6, 1: 0})
        group.leave("a", 2)
        group.note("b", 3, 0, 7, 2)
        self.assertEqual(group.places, {0: 7, 1: 0})

    def test_what_is_refused(self):
        group = Group(3, 10)
        group.join("a", 0)
        group.join("b", 0)
        group.note("a", 2, 0, 4, 0)
        before = state(group)
        for name, generation, part, place in (("a", 1, 0, 5), ("a", 3, 0, 5), ("a", 2, 2, 5), ("a", 2, 7, 5),
                                              ("a", 2, 0, 3), ("b", 2, 0, 5), ("b", 2, 2, -1)):
            with self.assertRaises(GroupError):
                group.note(name, generation, part, place, 1)
            self.assertEqual(state(group), before)

    def test_noting_is_not_being_heard(self):
        group = Group(1, 5)
        group.join("a", 0)
        group.note("a", 1, 0, 3, 4)
        self.assertEqual(group.heard, {"a": 0})
        with self.assertRaises(GroupError):
            group.note("a", 1, 0, 4, 5)
        self.assertEqual((group.heard, group.places), ({}, {0: 3}))


if __name__ == "__main__":
    unittest.main()

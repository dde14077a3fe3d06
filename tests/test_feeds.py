"""[20]: changes that have numbers, and those who follow by them."""

import random
import unittest

from streamstack.bags import Bag, same_bags
from streamstack.errors import QueryError
from streamstack.feeds import MOST_KEPT, Feed, Follower
from streamstack.plans import Sources
from streamstack.rows import Shape
from streamstack.views import View

SOURCES = Sources((("s", Shape((("a", "int"),))),))
SMALL = ("where", ("test", "<", ("column", "a"), ("int", 100)), ("source", "s"))


def fresh_feed():
    return Feed(View(SMALL, SOURCES))


def put(feed, number, weight=1):
    feed.change({"s": Bag((((number,), weight),))})


class Feeds(unittest.TestCase):
    def test_a_view_without_rows_has_no_first_change(self):
        feed = fresh_feed()
        self.assertEqual((feed.number, feed.changes), (0, {}))
        self.assertEqual(feed.ask(0), ("changes", 0, 0, ()))

    def test_what_the_view_has_at_first_is_the_first_change(self):
        view = View(SMALL, SOURCES)
        view.change({"s": Bag((((2,), 1), ((1,), 3)))})
        feed = Feed(view)
        self.assertEqual(feed.number, 1)
        self.assertEqual(feed.changes[1].weights, {(1,): 3, (2,): 1})
        self.assertEqual(feed.ask(0), ("changes", 0, 1, (((1,), 3), ((2,), 1))))
        put(feed, 5)
        self.assertEqual(feed.ask(1), ("changes", 1, 2, (((5,), 1),)))

    def test_changes_have_numbers_from_1_on(self):
        feed = fresh_feed()
        put(feed, 7)
        put(feed, 3)
        put(feed, 7, -1)
        self.assertEqual(feed.number, 3)
        self.assertEqual({number: bag.weights for number, bag in feed.changes.items()},
                         {1: {(7,): 1}, 2: {(3,): 1}, 3: {(7,): -1}})

    def test_what_does_not_change_the_view_has_no_number(self):
        feed = fresh_feed()
        feed.change({})
        feed.change({"s": Bag()})
        put(feed, 200)
        self.assertEqual((feed.number, feed.changes), (0, {}))
        put(feed, 1)
        put(feed, 300)
        self.assertEqual(feed.number, 1)

    def test_what_is_told_is_together_and_ascends(self):
        feed = fresh_feed()
        for number in (9, 4, 6):
            put(feed, number, 2)
        put(feed, 4, -2)
        put(feed, 9, -1)
        self.assertEqual(feed.ask(0), ("changes", 0, 5, (((6,), 2), ((9,), 1))))
        self.assertEqual(feed.ask(2), ("changes", 2, 5, (((4,), -2), ((6,), 2), ((9,), -1))))
        self.assertEqual(feed.ask(5), ("changes", 5, 5, ()))

    def test_twenty_changes_are_kept(self):
        self.assertEqual(MOST_KEPT, 20)
        feed = fresh_feed()
        for number in range(20):
            put(feed, number)
        self.assertEqual(feed.ask(0)[:3], ("changes", 0, 20))
        put(feed, 20)
        self.assertEqual(sorted(feed.changes), list(range(2, 22)))
        whole = tuple(((number,), 1) for number in range(21))
        self.assertEqual(feed.ask(0), ("whole", 21, whole))
        self.assertEqual(feed.ask(1), ("changes", 1, 21, whole[1:]))
        put(feed, 21)
        self.assertEqual(feed.ask(1)[0], "whole")
        self.assertEqual(feed.ask(2)[0], "changes")

    def test_numbers_that_cannot_be(self):
        feed = fresh_feed()
        put(feed, 1)
        for number in (-1, 2, 100):
            with self.assertRaises(QueryError):
                feed.ask(number)
        self.assertEqual(feed.number, 1)


class Followers(unittest.TestCase):
    def test_what_was_told_is_taken_once(self):
        feed, one = fresh_feed(), Follower()
        put(feed, 1)
        told = feed.ask(one.number)
        self.assertIs(one.take(told), True)
        self.assertEqual((one.number, one.bag.weights), (1, {(1,): 1}))
        self.assertIs(one.take(told), False)
        self.assertEqual((one.number, one.bag.weights), (1, {(1,): 1}))
        self.assertIs(one.take(feed.ask(1)), False)

    def test_changes_since_another_number_are_of_no_use(self):
        feed, one = fresh_feed(), Follower()
        put(feed, 1)
        first = feed.ask(0)
        put(feed, 2)
        both, second = feed.ask(0), feed.ask(1)
        self.assertIs(one.take(second), False)
        self.assertEqual((one.number, one.bag.weights), (0, {}))
        self.assertIs(one.take(first), True)
        self.assertIs(one.take(both), False)
        self.assertIs(one.take(second), True)
        self.assertEqual((one.number, one.bag.weights), (2, {(1,): 1, (2,): 1}))

    def test_the_whole_is_taken_if_it_is_newer(self):
        one = Follower()
        self.assertIs(one.take(("whole", 5, (((1,), 2),))), True)
        self.assertEqual((one.number, one.bag.weights), (5, {(1,): 2}))
        self.assertIs(one.take(("whole", 5, (((1,), 2),))), False)
        self.assertIs(one.take(("whole", 4, (((9,), 2),))), False)
        self.assertEqual((one.number, one.bag.weights), (5, {(1,): 2}))
        self.assertIs(one.take(("whole", 9, (((3,), 1),))), True)
        self.assertEqual((one.number, one.bag.weights), (9, {(3,): 1}))

    def test_lost_late_and_twice(self):
        for seed in range(40):
            chance = random.Random(seed)
            feed, followers, told = fresh_feed(), [Follower() for _ in range(3)], []
            history = {0: Bag()}
            for _ in range(70):
                put(feed, chance.randrange(6), chance.randrange(1, 3))
                history[feed.number] = feed.view.bag
                one = chance.choice(followers)
                if chance.random() < 0.4:
                    told.append((one, feed.ask(one.number)))
                if told and chance.random() < 0.5:
                    taker, lines = chance.choice(told)
                    before = taker.number
                    self.assertEqual(taker.take(lines), taker.number > before)
                    self.assertTrue(same_bags(taker.bag, history[taker.number]))
            for one in followers:
                one.take(feed.ask(one.number))
                self.assertEqual(one.number, feed.number)
                self.assertTrue(same_bags(one.bag, feed.view.bag))


if __name__ == "__main__":
    unittest.main()

"""[11]: schemas with stand-ins, subjects and their rules."""

import unittest

from streamstack.errors import RowError
from streamstack.schemas import Registry, Schema

A, B, C = ("a", "int"), ("b", "text"), ("c", "int")
PLAIN = Schema((A, B))
WIDER = Schema((A, B, C), (("c", 9),))
LACKING = Schema((A, B, C))
SMALLER = Schema((A,))
OTHER = Schema((("a", "text"), B))
RULES = ("back", "forth", "both", "all", "free")


class Schemas(unittest.TestCase):
    def test_stand_ins_that_cannot_be(self):
        Schema((A, B), (("a", 1), ("b", "")))
        Schema((A, B), {"a": 1})
        for lacking in ((("a", "x"),), (("b", 1),), (("c", 1),), (("a", 1), ("q", 1)), (("a", None),), (("a", True),),
                        (("b", "\t"),), {"a": "x"}):
            with self.assertRaises(RowError):
                Schema((A, B), lacking)

    def test_columns_that_cannot_be(self):
        for columns in ((A, A), (("a", "truth"),), (("", "int"),), tuple((f"c{n}", "int") for n in range(21))):
            with self.assertRaises(RowError):
                Schema(columns)

    def test_what_can_be_read(self):
        self.assertTrue(PLAIN.reads(PLAIN))
        self.assertTrue(PLAIN.reads(LACKING))
        self.assertTrue(SMALLER.reads(PLAIN))
        self.assertTrue(WIDER.reads(PLAIN))
        self.assertFalse(WIDER.reads(SMALLER))
        self.assertFalse(LACKING.reads(PLAIN))
        self.assertFalse(OTHER.reads(PLAIN))
        self.assertFalse(PLAIN.reads(OTHER))
        self.assertFalse(Schema((A, B), (("a", 5),)).reads(OTHER))

    def test_rows_with_columns_in_another_order_lacking_and_too_many(self):
        turned = Schema((C, B, A), (("c", 9), ("b", "none")))
        self.assertEqual(turned.row_from(PLAIN, (1, "x")), (9, "x", 1))
        self.assertEqual(turned.row_from(SMALLER, (1,)), (9, "none", 1))
        self.assertEqual(turned.row_from(LACKING, (1, "x", 2)), (2, "x", 1))
        self.assertEqual(SMALLER.row_from(LACKING, (1, "x", 2)), (1,))
        self.assertEqual(PLAIN.row_from(PLAIN, (1, "x")), (1, "x"))

    def test_rows_that_cannot_be_read_or_do_not_fit(self):
        for schema, other, row in ((LACKING, PLAIN, (1, "x")), (OTHER, PLAIN, (1, "x")), (WIDER, PLAIN, (1,)),
                                   (WIDER, PLAIN, ("x", 1)), (WIDER, PLAIN, (1, "x", 2)), (WIDER, PLAIN, [1, "x"]),
                                   (PLAIN, PLAIN, (1, "\t")), (PLAIN, PLAIN, (True, "x"))):
            with self.assertRaises(RowError):
                schema.row_from(other, row)


class Rules(unittest.TestCase):
    def registry(self, rule, *schemas):
        """Return a registry in which a subject has some schemas, then a rule."""
        registry = Registry()
        registry.put_rule("s", "free")
        for number, schema in enumerate(schemas):
            self.assertEqual(registry.add("s", schema), number)
        if rule is not None:
            self.assertIsNone(registry.put_rule("s", rule))
        return registry

    def check(self, before, schema, fitting):
        for rule in RULES:
            registry = self.registry(rule, *before)
            with self.subTest(rule=rule):
                self.assertEqual(registry.fits("s", schema), rule in fitting)
                if rule in fitting:
                    self.assertEqual(registry.add("s", schema), len(before))
                else:
                    with self.assertRaises(RowError):
                        registry.add("s", schema)
                    registry.put_rule("s", "free")
                    self.assertEqual(registry.add("s", schema), len(before))

    def test_each_rule_with_schemas_that_fit_and_that_do_not(self):
        self.check((PLAIN,), PLAIN, RULES)
        self.check((PLAIN,), WIDER, RULES)
        self.check((PLAIN,), LACKING, ("forth", "free"))
        self.check((PLAIN,), SMALLER, ("back", "all", "free"))
        self.check((PLAIN,), OTHER, ("free",))

    def test_all_looks_at_all_and_the_others_at_the_last_one(self):
        self.check((OTHER, PLAIN), PLAIN, ("back", "forth", "both", "free"))
        self.check((PLAIN, LACKING), LACKING, ("back", "forth", "both", "free"))
        self.check((LACKING, PLAIN), PLAIN, RULES)

    def test_the_first_schema_always_fits(self):
        for rule in RULES:
            registry = Registry()
            registry.put_rule("s", rule)
            self.assertTrue(registry.fits("s", OTHER))
            self.assertEqual(registry.add("s", OTHER), 0)

    def test_back_where_no_rule_was_told(self):
        registry = Registry()
        self.assertEqual((registry.add("s", PLAIN), registry.add("s", SMALLER)), (0, 1))
        self.assertFalse(registry.fits("s", PLAIN))
        self.assertEqual(registry.add("s", SMALLER), 2)

    def test_a_rule_that_is_told_later(self):
        registry = Registry()
        registry.add("s", PLAIN)
        registry.put_rule("s", "forth")
        self.assertFalse(registry.fits("s", SMALLER))
        self.assertEqual(registry.add("s", LACKING), 1)
        registry.put_rule("t", "free")
        self.assertFalse(registry.fits("s", OTHER))

    def test_rules_that_are_not_there(self):
        registry = Registry()
        registry.add("s", PLAIN)
        registry.put_rule("s", "forth")
        for rule in ("", "none", "Back", None):
            with self.assertRaises(RowError):
                registry.put_rule("s", rule)
        self.assertFalse(registry.fits("s", SMALLER))
        self.assertTrue(registry.fits("s", LACKING))

    def test_subjects_by_themselves(self):
        registry = Registry()
        self.assertEqual((registry.add("s", PLAIN), registry.add("t", OTHER), registry.add("t", OTHER)), (0, 0, 1))


class Reading(unittest.TestCase):
    def setUp(self):
        self.registry = Registry()
        self.registry.put_rule("s", "free")
        for schema in (PLAIN, WIDER, OTHER):
            self.registry.add("s", schema)

    def test_rows_of_one_number_as_those_of_another_one(self):
        self.assertEqual(self.registry.read("s", 0, (1, "x"), 1), (1, "x", 9))
        self.assertEqual(self.registry.read("s", 1, (1, "x", 2), 0), (1, "x"))
        self.assertEqual(self.registry.read("s", 1, (1, "x", 2), 1), (1, "x", 2))

    def test_numbers_that_are_not_there_and_rows_that_do_not_fit(self):
        for subject, number, row, wanted in (("s", -1, (1, "x"), 0), ("s", 3, (1, "x"), 0), ("s", 0, (1, "x"), -1),
                                             ("s", 0, (1, "x"), 3), ("t", 0, (1, "x"), 0), ("s", 0, (1,), 1),
                                             ("s", 0, (1, "x"), 2), ("s", 0, (1, "x", 2), 1)):
            with self.assertRaises(RowError):
                self.registry.read(subject, number, row, wanted)


if __name__ == "__main__":
    unittest.main()

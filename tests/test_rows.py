"""[2]: kinds, shapes, the bytes of rows and how they are read back, the hash of a row."""

import random
import unittest

from streamstack.errors import RowError
from streamstack.rows import LETTERS, ByteReader, Shape, hash_of, kind_of, natural_bytes, read_row, row_bytes

EDGES = (0, 1, 127, 128, 129, 255, 256, 16383, 16384, 2 ** 63 - 1, 2 ** 63, 2 ** 64, 10 ** 200)


def some_rows():
    chance = random.Random(5)
    rows = [(), ("",), (0,), (-1,), (127,), (128,), (-128,), (-129,), tuple(range(20)), ("a",) * 20, (LETTERS,),
            ("x" * 127, "x" * 128, "\n"), (10 ** 300, -10 ** 300)]
    for _ in range(300):
        row = []
        for _ in range(chance.randrange(21)):
            if chance.random() < 0.5:
                row.append(chance.randrange(-10 ** chance.randrange(1, 30), 10 ** chance.randrange(1, 30)))
            else:
                row.append("".join(chance.choice(LETTERS) for _ in range(chance.randrange(9))))
        rows.append(tuple(row))
    return rows


class Kinds(unittest.TestCase):
    def test_numbers_and_texts(self):
        for value in (0, -1, 10 ** 100):
            self.assertEqual(kind_of(value), "int")
        for value in ("", "a", "\n", LETTERS, "it's"):
            self.assertEqual(kind_of(value), "text")

    def test_others_are_refused(self):
        for value in (True, False, None, 1.5, (), [], b"a", {}, "%", "a%b", "\t", "\r", "\x00", "\x7f", "\u00e9"):
            with self.subTest(value=value), self.assertRaises(RowError):
                kind_of(value)


class Shapes(unittest.TestCase):
    def test_columns_places_and_kinds(self):
        shape = Shape((("a", "int"), ("b", "text"), ("c", "int")))
        self.assertEqual(shape.columns, (("a", "int"), ("b", "text"), ("c", "int")))
        self.assertEqual([shape.place_of(name) for name in "abc"], [0, 1, 2])
        self.assertEqual(shape.kinds(), ("int", "text", "int"))
        self.assertIs(type(shape.kinds()), tuple)

    def test_unknown_columns_are_refused(self):
        for name in ("", "b", "A"):
            with self.assertRaises(RowError):
                Shape((("a", "int"),)).place_of(name)

    def test_no_columns_and_twenty_are_fine(self):
        self.assertEqual(Shape(()).kinds(), ())
        self.assertEqual(Shape(()).check_row(()), ())
        self.assertEqual(len(Shape(tuple((f"c{n}", "int") for n in range(20))).columns), 20)

    def test_columns_that_cannot_be(self):
        wrong = [tuple((f"c{n}", "int") for n in range(21)), (("a", "int"), ("a", "text")), (("", "int"),),
                 (("a", "truth"),), (("a", ""),), (("a", "int"), ("b", "Int"))]
        for columns in wrong:
            with self.subTest(columns=columns), self.assertRaises(RowError):
                Shape(columns)

    def test_rows_that_fit(self):
        shape = Shape((("a", "int"), ("b", "text")))
        row = (-5, "x")
        self.assertIs(shape.check_row(row), row)

    def test_rows_that_do_not_fit(self):
        shape = Shape((("a", "int"), ("b", "text")))
        for row in ((1,), (1, "x", 2), ("x", 1), (1, 2), (), [1, "x"], None, (True, "x"), (1, "%"), (1, None)):
            with self.subTest(row=row), self.assertRaises(RowError):
                shape.check_row(row)


class Numbers(unittest.TestCase):
    def test_natural_bytes_at_their_edges(self):
        told = {0: (0,), 1: (1,), 127: (127,), 128: (128, 1), 129: (129, 1), 255: (255, 1), 256: (128, 2),
                300: (172, 2), 16383: (255, 127), 16384: (128, 128, 1), 2 ** 63: (128,) * 9 + (1,)}
        for number, data in told.items():
            self.assertEqual(natural_bytes(number), data)

    def test_they_tell_the_number_seven_bits_each(self):
        for number in EDGES:
            data = natural_bytes(number)
            self.assertIs(type(data), tuple)
            self.assertEqual(sum((byte % 128) << 7 * place for place, byte in enumerate(data)), number)
            self.assertTrue(all(byte >= 128 for byte in data[:-1]) and data[-1] < 128)


class Bytes(unittest.TestCase):
    def test_bytes_of_rows(self):
        self.assertEqual(row_bytes(()), (0,))
        self.assertEqual(row_bytes((0,)), (1, 0, 0))
        self.assertEqual(row_bytes((127, 128)), (2, 0, 127, 0, 128, 1))
        self.assertEqual(row_bytes((-1, -128, -129)), (3, 1, 0, 1, 127, 1, 128, 1))
        self.assertEqual(row_bytes(("",)), (1, 2, 0))
        self.assertEqual(row_bytes(("\n !~",)), (1, 2, 4, 0, 1, 2, 94))
        self.assertEqual(row_bytes((5, "a", -6)), (3, 0, 5, 2, 1, LETTERS.index("a"), 1, 5))
        self.assertEqual(row_bytes(("b" * 128,))[:4], (1, 2, 128, 1))

    def test_each_row_reads_back(self):
        for row in some_rows():
            data = row_bytes(row)
            self.assertIs(type(data), tuple)
            self.assertTrue(all(0 <= byte <= 255 for byte in data))
            self.assertEqual(read_row(data), row)

    def test_numbers_at_their_edges_read_back(self):
        for number in EDGES:
            for value in (number, -number, -number - 1):
                self.assertEqual(read_row(row_bytes((value,))), (value,))

    def test_twenty_values_are_read_and_twenty_one_refused(self):
        self.assertEqual(read_row(row_bytes(tuple(range(20)))), tuple(range(20)))
        data = row_bytes(tuple(range(21)))
        self.assertEqual(data[0], 21)
        with self.assertRaises(RowError):
            read_row(data)
        with self.assertRaises(RowError):
            read_row(natural_bytes(2 ** 70))

    def test_values_that_are_none_have_no_bytes(self):
        for row in ((True,), (None,), ("%",), (1, "\t")):
            with self.assertRaises(RowError):
                row_bytes(row)

    def test_bytes_that_are_cut_or_go_on_are_refused(self):
        for row in some_rows()[:80]:
            data = row_bytes(row)
            for end in range(min(len(data), 60)):
                with self.assertRaises(RowError):
                    read_row(data[:end])
            with self.assertRaises(RowError):
                read_row(data[:-1])
            for more in (0, 1, 255):
                with self.assertRaises(RowError):
                    read_row(data + (more,))

    def test_bytes_told_in_another_way_are_refused(self):
        wrong = [(128, 0), (129, 0, 0, 0), (1, 0, 128, 0), (1, 0, 255, 128, 0), (1, 1, 128, 0), (1, 2, 128, 0),
                 (1, 128, 0, 0), (1, 2, 1, 128, 0), (1, 2, 129, 0, 5)]
        for data in wrong:
            with self.subTest(data=data), self.assertRaises(RowError):
                read_row(data)

    def test_other_marks_and_characters_are_refused(self):
        for data in ((1, 3), (1, 3, 0), (1, 255, 0), (1, 2, 1, 95), (1, 2, 1, 127), (1, 2, 1, 255), ()):
            with self.subTest(data=data), self.assertRaises(RowError):
                read_row(data)

    def test_a_text_that_claims_more_than_there_is(self):
        with self.assertRaises(RowError):
            read_row((1, 2) + natural_bytes(2 ** 90) + (5, 5))


class Readers(unittest.TestCase):
    def test_bytes_one_after_another(self):
        reader = ByteReader((7, 255))
        self.assertEqual([reader.byte(), reader.byte()], [7, 255])
        self.assertEqual(reader.place, 2)
        with self.assertRaises(RowError):
            reader.byte()
        self.assertEqual((reader.place, reader.data), (2, (7, 255)))

    def test_rows_one_after_another(self):
        data = row_bytes((1, "a")) + row_bytes(()) + row_bytes((-3,))
        reader = ByteReader(data)
        self.assertEqual([reader.row(), reader.row(), reader.row()], [(1, "a"), (), (-3,)])
        self.assertEqual(reader.place, len(data))
        with self.assertRaises(RowError):
            reader.row()

    def test_a_row_that_is_refused_moves_nothing(self):
        good = row_bytes((9,))
        for bad in ((2, 0, 1), (2, 0, 1, 3), (2, 0, 5, 2, 3, 1), (21,), (1, 0, 128, 0), ()):
            reader = ByteReader(good + bad)
            self.assertEqual(reader.row(), (9,))
            with self.assertRaises(RowError):
                reader.row()
            self.assertEqual((reader.place, reader.data), (len(good), good + bad))


class Hashes(unittest.TestCase):
    def test_hashes_of_some_rows(self):
        self.assertEqual(hash_of(()), 31 * 7 + 0 + 1)
        self.assertEqual(hash_of((0,)), (((7 * 31 + 1 + 1) * 31 + 0 + 1) * 31 + 0 + 1))

    def test_hashes_by_all_bytes(self):
        for row in some_rows():
            found = 7
            for byte in row_bytes(row):
                found = found * 31 + byte + 1
            self.assertEqual(hash_of(row), found % 2147483647)

    def test_what_is_no_row_has_none(self):
        for row in ((None,), (False,), ("\u00e9",)):
            with self.assertRaises(RowError):
                hash_of(row)


if __name__ == "__main__":
    unittest.main()

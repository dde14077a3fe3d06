"""Rows: tuples of whole numbers and texts, their kinds, and their bytes."""

from streamstack.errors import RowError

KINDS = ("int", "text")
LETTERS = '\n !"#$&\'()*+,-./0123456789:;<=>?@ABCDEFGHIJKLMNOPQRSTUVWXYZ[\\]^_`abcdefghijklmnopqrstuvwxyz{|}~'
MOST_COLUMNS = 20


def kind_of(value):
    """Return "int" or "text" of a value; raise RowError for others, and for texts with other characters."""
    # True and False would pass as numbers below.
    if isinstance(value, bool):
        raise RowError("a truth is no value")
    if isinstance(value, int):
        return "int"
    if not isinstance(value, str) or any(sign not in LETTERS for sign in value):
        raise RowError("neither a number nor a text")
    return "text"


class Shape:
    """Columns: (name, kind) rows."""

    def __init__(self, columns):
        names = [name for name, kind in columns]
        if len(columns) > MOST_COLUMNS or len({name: True for name in names}) != len(names):
            raise RowError("too many columns, or one twice")
        if any(name == "" or kind not in KINDS for name, kind in columns):
            raise RowError("a column without a name or a kind")
        self.columns = tuple([(name, kind) for name, kind in columns])
        self.places = {name: place for place, name in enumerate(names)}

    def place_of(self, name):
        """Return a column's place; raise RowError for an unknown one."""
        if name not in self.places:
            raise RowError(f"no column {name}")
        return self.places[name]

    def kinds(self):
        """Return the columns' kinds, in order."""
        return tuple([kind for name, kind in self.columns])

    def check_row(self, row):
        """Return a row; raise RowError if it does not fit."""
        if not isinstance(row, tuple) or tuple([kind_of(value) for value in row]) != self.kinds():
            raise RowError("the row does not fit the columns")
        return row


def natural_bytes(number):
    """Return the bytes of a number from 0 on: seven bits each, the lowest first, all but the last raised by 128."""
    found = []
    left = number
    while left >= 128:
        found.append(left % 128 + 128)
        left = left // 128
    found.append(left)
    return tuple(found)


def value_bytes(value):
    """Return the bytes of one value: its mark, then the number or the text."""
    if kind_of(value) == "text":
        return (2,) + natural_bytes(len(value)) + tuple([LETTERS.index(sign) for sign in value])
    if value < 0:
        return (1,) + natural_bytes(-value - 1)
    return (0,) + natural_bytes(value)


def row_bytes(row):
    """Return the bytes of a row: how many values, then each: 0 and a number from 0 on, 1 and -n - 1, or 2 and a text.

    A text is its length and its characters' places in LETTERS.
    """
    found = list(natural_bytes(len(row)))
    for value in row:
        found.extend(value_bytes(value))
    return tuple(found)


class ByteReader:
    """Bytes, and how far they were read."""

    def __init__(self, data):
        self.data = data
        self.place = 0

    def byte(self):
        """Return the next byte; raise RowError if there is none."""
        if self.place >= len(self.data):
            raise RowError("the bytes end too early")
        found = self.data[self.place]
        self.place += 1
        return found

    def row(self):
        """Return the next row."""
        begin = self.place
        try:
            return self.whole_row()
        except RowError:
            # What was refused counts as not read.
            self.place = begin
            raise

    def whole_row(self):
        """Return the next row; of bytes that are refused some may have been read."""
        many = self.natural()
        if many > MOST_COLUMNS:
            raise RowError("too many values")
        return tuple([self.value() for _ in range(many)])

    def natural(self):
        """Return the next number from 0 on."""
        number = 0
        worth = 1
        byte = self.byte()
        while byte >= 128:
            number += (byte - 128) * worth
            worth = worth * 128
            byte = self.byte()
        # A highest part of 0 would tell the same number in a second way.
        if byte == 0 and worth > 1:
            raise RowError("a number is told too long")
        return number + byte * worth

    def value(self):
        """Return the next value of a row."""
        mark = self.byte()
        if mark == 0:
            return self.natural()
        if mark == 1:
            return -self.natural() - 1
        if mark == 2:
            return self.text()
        raise RowError("no such kind of value")

    def text(self):
        """Return the next text."""
        many = self.natural()
        if many > len(self.data) - self.place:
            raise RowError("a text ends too early")
        return "".join([self.letter() for _ in range(many)])

    def letter(self):
        """Return the next character of a text."""
        byte = self.byte()
        if byte >= len(LETTERS):
            raise RowError("no such character")
        return LETTERS[byte]


def read_row(data):
    """Return the row of bytes; raise RowError for others, and for more."""
    reader = ByteReader(data)
    row = reader.row()
    if reader.place != len(reader.data):
        raise RowError("bytes go on behind the row")
    return row


def hash_of(row):
    """Return a number that hangs on a row: from 7 on, 31 times the value plus each byte, plus 1, by 2147483647."""
    found = 7
    for byte in row_bytes(row):
        found = (31 * found + byte + 1) % 2147483647
    return found

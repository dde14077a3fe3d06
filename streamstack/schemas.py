"""Schemas: shapes of rows that change, and rows of one shape read as those of another one."""

from streamstack.errors import RowError
from streamstack.rows import Shape, kind_of

RULES = ("back", "forth", "both", "all", "free")


class Schema:
    """A shape, and what stands for columns that a row lacks, by names."""

    def __init__(self, columns, lacking=()):
        self.shape = Shape(columns)
        self.lacking = dict(lacking)
        kinds = dict(self.shape.columns)
        if any(name not in kinds or kind_of(value) != kinds[name] for name, value in self.lacking.items()):
            raise RowError("a value stands for no column, or for one of another kind")

    def reads(self, other):
        """Return True if rows of another schema can be read: shared columns have one kind, others have a stand-in."""
        kinds = dict(other.shape.columns)
        for name, kind in self.shape.columns:
            fits = kinds[name] == kind if name in kinds else name in self.lacking
            if not fits:
                return False
        return True

    def row_from(self, other, row):
        """Return the row of another schema's row; raise RowError if it cannot be read, or does not fit that schema."""
        if not self.reads(other):
            raise RowError("rows of that schema cannot be read")
        other.shape.check_row(row)
        told = {name: row[place] for place, (name, kind) in enumerate(other.shape.columns)}
        return tuple([told[name] if name in told else self.lacking[name] for name, kind in self.shape.columns])


class Registry:
    """Schemas by subject, in order, and each subject's rule.

    Rules: "back", a new one reads rows of the one before; "forth", the one before reads rows of the new one; "both";
    "all", it reads rows of all before; "free".
    """

    def __init__(self):
        self.schemas = {}
        self.rules = {}

    def put_rule(self, subject, rule):
        """Tell a subject's rule; raise RowError for another one."""
        if rule not in RULES:
            raise RowError(f"no rule {rule}")
        self.rules[subject] = rule

    def fits(self, subject, schema):
        """Return True if a schema may come next in a subject, by its rule, "back" where none was told."""
        before = self.schemas.get(subject, [])
        rule = self.rules.get(subject, "back")
        if before == [] or rule == "free":
            return True
        if rule == "all":
            return all(schema.reads(one) for one in before)
        back = rule == "forth" or schema.reads(before[-1])
        forth = rule == "back" or before[-1].reads(schema)
        return back and forth

    def add(self, subject, schema):
        """Add a schema to a subject and return its number, from 0 on; raise RowError if it does not fit."""
        if not self.fits(subject, schema):
            raise RowError(f"the schema does not fit {subject}")
        self.schemas.setdefault(subject, []).append(schema)
        return len(self.schemas[subject]) - 1

    def read(self, subject, number, row, wanted):
        """Return a row of one number's schema as one of another number's; raise RowError."""
        found = self.schemas.get(subject, [])
        if not 0 <= number < len(found) or not 0 <= wanted < len(found):
            raise RowError("no such schema")
        return found[wanted].row_from(found[number], row)

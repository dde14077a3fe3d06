"""Queries: texts that are read as plans."""

from streamstack.errors import QueryError
from streamstack.plans import TOTALS
from streamstack.rows import LETTERS
from streamstack.terms import TESTS

MOST_TOKENS = 300
MOST_DEPTH = 30
MOST_FIGURES = 18
BLANKS = " \n"
SMALL = "abcdefghijklmnopqrstuvwxyz"
FIGURES = "0123456789"
WORDS = ("pick", "once", "from", "where", "group", "by", "as", "meet", "on", "both", "without", "or", "and", "not",
         "length", "if", "then", "else", "count", "sum", "least", "greatest")
# Longer signs stand ahead of those that they begin with.
SIGNS = ("<>", "<=", ">=", "=", "<", ">", "+", "-", "&", "*", "/", "(", ")", ",")


def tokens_of(text):
    """Return the (kind, value) tokens of a text: "name", "word", "int", "text" and "sign"; raise QueryError.

    Texts stand in "'" and have none; names are of small letters, figures and "_", a letter first.
    """
    found = []
    place = 0
    while place < len(text):
        if text[place] in BLANKS:
            place += 1
        else:
            token, place = token_at(text, place)
            found.append(token)
    return found


def token_at(text, place):
    """Return the token at a place, and the place behind it; raise QueryError if there is none."""
    if text[place] in FIGURES:
        return number_at(text, place)
    if text[place] in SMALL:
        end = end_of_run(text, place, SMALL + FIGURES + "_")
        name = text[place:end]
        return ("word" if name in WORDS else "name", name), end
    if text[place] == "'":
        return text_at(text, place)
    for sign in SIGNS:
        if text[place:place + len(sign)] == sign:
            return ("sign", sign), place + len(sign)
    raise QueryError("no such sign")


def end_of_run(text, place, signs):
    """Return the place behind the signs of some kind that stand from a place on."""
    end = place
    while end < len(text) and text[end] in signs:
        end += 1
    return end


def number_at(text, place):
    """Return the token of the number at a place, and the place behind it; raise QueryError for one that cannot be."""
    end = end_of_run(text, place, FIGURES)
    if end - place > MOST_FIGURES or (text[place] == "0" and end - place > 1):
        raise QueryError("no such number")
    return ("int", int(text[place:end])), end


def text_at(text, place):
    """Return the token of the text at a place, and the place behind it; raise QueryError for one that cannot be."""
    end = text.find("'", place + 1)
    if end < 0:
        raise QueryError("a text does not end")
    value = text[place + 1:end]
    # No row can have such a value.
    if any(sign not in LETTERS for sign in value):
        raise QueryError("a text with other characters")
    return ("text", value), end + 1


class Parser:
    """Tokens, the place of the next one, and how many brackets and their like it stands within."""

    def __init__(self, text):
        self.tokens = tokens_of(text)
        self.place = 0
        self.depth = 0
        if len(self.tokens) > MOST_TOKENS:
            raise QueryError("too many tokens")

    def token(self):
        """Return the next token, one of its own kind behind the last."""
        return self.tokens[self.place] if self.place < len(self.tokens) else ("end", "")

    def takes(self, kind, value):
        """Return whether the next token is this one; then it is read."""
        if self.token() != (kind, value):
            return False
        self.place += 1
        return True

    def need(self, kind, value):
        """Read this token; raise QueryError if another one stands here."""
        if not self.takes(kind, value):
            raise QueryError(f"expected {value}")

    def need_name(self):
        """Read and return a name; raise QueryError if none stands here."""
        kind, value = self.token()
        if kind != "name":
            raise QueryError("expected a name")
        self.place += 1
        return value

    def need_end(self):
        """Raise QueryError if a token is left."""
        if self.place < len(self.tokens):
            raise QueryError("the text goes on")

    def deepen(self):
        """Note that the reading goes into something; raise QueryError if it is too deep there."""
        self.depth += 1
        if self.depth > MOST_DEPTH:
            raise QueryError("too many brackets and their like within each other")

    def open_bracket(self):
        """Read a bracket that opens."""
        self.need("sign", "(")
        self.deepen()

    def close_bracket(self):
        """Read a bracket that closes."""
        self.need("sign", ")")
        self.depth -= 1

    def query(self):
        """Read queries that are put together, and return their plan."""
        plan = self.one_query()
        while self.token() == ("word", "both") or self.token() == ("word", "without"):
            word = self.token()[1]
            self.place += 1
            plan = (word, plan, self.one_query())
        return plan

    def one_query(self):
        """Read one query, and return its plan."""
        self.need("word", "pick")
        once = self.takes("word", "once")
        columns, totals = self.columns_and_totals()
        self.need("word", "from")
        plan = self.meeting()
        if self.takes("word", "where"):
            plan = ("where", self.term(), plan)
        names = None
        if self.takes("word", "group"):
            self.need("word", "by")
            names = self.names()
        plan = plan_over(columns, totals, names, plan)
        return ("once", plan) if once else plan

    def columns_and_totals(self):
        """Read what is picked: return the (name, term) columns, None for all, and the totals among them."""
        if self.takes("sign", "*"):
            return None, ()
        columns = []
        totals = []
        self.note_column(columns, totals)
        while self.takes("sign", ","):
            self.note_column(columns, totals)
        return tuple(columns), tuple(totals)

    def note_column(self, columns, totals):
        """Read what is picked up to the next comma, and note it."""
        kind, value = self.token()
        if kind == "word" and value in TOTALS:
            total = self.total()
            totals.append(total)
            columns.append((total[0], ("column", total[0])))
        else:
            columns.append(self.column())

    def total(self):
        """Read a total, and return its (name, total, column or None)."""
        word = self.token()[1]
        self.place += 1
        self.open_bracket()
        column = None if word == "count" else self.need_name()
        self.close_bracket()
        self.need("word", "as")
        return (self.need_name(), word, column)

    def column(self):
        """Read a name, or a term and its name, and return (name, term)."""
        begin = self.place
        term = self.term()
        if self.takes("word", "as"):
            return (self.need_name(), term)
        # A column in brackets is a term, and lacks a name.
        if term[0] != "column" or self.place != begin + 1:
            raise QueryError("expected as")
        return (term[1], term)

    def names(self):
        """Read names with commas between them, and return them."""
        found = [self.need_name()]
        while self.takes("sign", ","):
            found.append(self.need_name())
        return tuple(found)

    def meeting(self):
        """Read sources that meet, and return their plan."""
        plan = self.source()
        while self.takes("word", "meet"):
            other = self.source()
            self.need("word", "on")
            pairs = [self.pair()]
            while self.takes("sign", ","):
                pairs.append(self.pair())
            plan = ("meet", tuple(pairs), plan, other)
        return plan

    def pair(self):
        """Read two names of columns that have to be equal, and return them."""
        one = self.need_name()
        self.need("sign", "=")
        return (one, self.need_name())

    def source(self):
        """Read a source's name, or a query in brackets, and return the plan."""
        if self.token() != ("sign", "("):
            return ("source", self.need_name())
        self.open_bracket()
        plan = self.query()
        self.close_bracket()
        return plan

    def term(self):
        """Read a term, and return it: terms of the loosest kind, parted by "or"."""
        found = self.and_term()
        while self.takes("word", "or"):
            found = ("link", "or", found, self.and_term())
        return found

    def and_term(self):
        """Read terms parted by "and"."""
        found = self.not_term()
        while self.takes("word", "and"):
            found = ("link", "and", found, self.not_term())
        return found

    def not_term(self):
        """Read a comparison, with each "not" ahead of it."""
        if not self.takes("word", "not"):
            return self.test()
        self.deepen()
        found = ("not", self.not_term())
        self.depth -= 1
        return found

    def test(self):
        """Read a sum, or two that are compared."""
        found = self.sum_term()
        kind, sign = self.token()
        if kind != "sign" or sign not in TESTS:
            return found
        self.place += 1
        return ("test", sign, found, self.sum_term())

    def sum_term(self):
        """Read products parted by "+", "-" and "&"."""
        found = self.product_term()
        kind, sign = self.token()
        while kind == "sign" and sign in ("+", "-", "&"):
            self.place += 1
            other = self.product_term()
            found = ("join", found, other) if sign == "&" else ("sum", sign, found, other)
            kind, sign = self.token()
        return found

    def product_term(self):
        """Read single terms parted by "*" and "/"."""
        found = self.single_term()
        kind, sign = self.token()
        while kind == "sign" and sign in ("*", "/"):
            self.place += 1
            found = ("sum", sign, found, self.single_term())
            kind, sign = self.token()
        return found

    def single_term(self):
        """Read a term that no sign parts."""
        kind, value = self.token()
        if kind == "name" or kind == "int" or kind == "text":
            self.place += 1
            return ("column" if kind == "name" else kind, value)
        if self.takes("sign", "-"):
            self.deepen()
            found = ("sum", "-", ("int", 0), self.single_term())
            self.depth -= 1
            return found
        if self.takes("word", "if"):
            return self.choice()
        if self.takes("word", "length"):
            return ("length", self.term_in_brackets())
        return self.term_in_brackets()

    def choice(self):
        """Read what stands behind "if"."""
        self.deepen()
        truth = self.term()
        self.need("word", "then")
        one = self.term()
        self.need("word", "else")
        found = ("if", truth, one, self.term())
        self.depth -= 1
        return found

    def term_in_brackets(self):
        """Read a bracket, a term, and the bracket that closes it."""
        self.open_bracket()
        found = self.term()
        self.close_bracket()
        return found


def plan_over(columns, totals, names, plan):
    """Return the plan of picked columns, None for all, over a plan, by groups of names, None where none are told."""
    if columns is None:
        if names is not None:
            raise QueryError("groups have no columns but theirs")
        return plan
    if names is None and totals == ():
        return ("pick", columns, plan)
    return ("pick", columns, ("group", names or (), totals, plan))


def parse_query(text):
    """Return the plan of a text; raise QueryError for one that cannot be read."""
    parser = Parser(text)
    plan = parser.query()
    parser.need_end()
    return plan


def parse_term(text):
    """Return the term of a text, a value or a truth; raise QueryError."""
    parser = Parser(text)
    term = parser.term()
    parser.need_end()
    return term

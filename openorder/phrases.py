"""Expressions read from words, with a stack of what is begun, so that brackets may nest deep."""

from openorder.levels import ASSIGNMENT, ASSIGNMENTS, BINARY, CHOICE, COMMA, LOGIC, PREFIX, PREFIXES

# The level of a bracket that is not closed yet: nothing in front of it is finished before it is.
BRACKET = -1

# What the operand in front of the cursor may become: a PLACE stands in front of = and +=, a name or
# an item also in front of ++; BOXED is a ( * U ), which only ++ may follow; all others are PLAIN.
PLACE = 2
BOXED = 1
PLAIN = 0

# The heads of the outermost entry of the stack, for an E and for an A.
WHOLE = ("whole",)
SINGLE = ("single",)
COMMA_TAKERS = ("whole", "group", "item", "refitem", "choice")


class Phrase:
    """An expression while it is read.

    What is begun is a stack of (level, closer, head, tail): with the operand that is still to come,
    head + (operand,) + tail is an expression; closer is the word that ends it, or "".
    """

    def __init__(self, cursor, closer, head):
        self.cursor = cursor
        self.stack = [(BRACKET, closer, head, ())]
        self.operand = None
        self.form = PLAIN
        self.done = False

    def read(self):
        """Read the expression up to the word that closes it, which is left for the caller."""
        while not self.done:
            if self.operand is None:
                self.read_operand()
            else:
                self.read_behind_operand()
        return self.operand

    def begin(self, level, closer, head, tail):
        """Begin what needs an operand, which comes next."""
        self.stack.append((level, closer, head, tail))
        self.operand = None

    def found(self, operand, form):
        """Take an operand that is complete."""
        self.operand = operand
        self.form = form

    def finish(self, level):
        """Finish what was begun in front of the operand and binds at least as closely as level."""
        while self.stack[-1][0] >= level:
            head, tail = self.stack.pop()[2:]
            is_place = head[0] == "at" and tail == (0,)
            self.found(head + (self.operand,) + tail, PLACE if is_place else PLAIN)

    def read_operand(self):
        """Read a word where an operand is wanted."""
        sign = self.cursor.sign()
        if sign == "number":
            self.found(("num", int(self.cursor.step())), PLAIN)
        elif sign == "name":
            self.read_name()
        elif sign in PREFIXES:
            self.cursor.step()
            self.begin(PREFIX, "", (PREFIXES[sign],), (self.cursor.mark(),))
        elif sign == "&":
            self.read_reference()
        elif sign == "(":
            self.cursor.step()
            self.begin(BRACKET, ")", ("group",), ())
        elif sign == "print":
            self.cursor.step()
            mark = self.cursor.mark()
            self.cursor.want("(")
            self.begin(BRACKET, ")", ("print",), (mark,))
        else:
            self.cursor.refuse()

    def read_name(self):
        """Read a variable, or begin an item or a call."""
        name = self.cursor.step()
        if self.cursor.sign() in ("(", "#"):
            self.begin_call(name)
        elif self.cursor.passes("["):
            self.begin(BRACKET, "]", ("item", name), (self.cursor.mark(),))
        else:
            self.found(("var", name), PLACE)

    def begin_call(self, name):
        """Begin a call; one without arguments, which has no mark, is complete at once."""
        mark = self.cursor.mark()
        self.cursor.want("(")
        if mark == 0 and self.cursor.passes(")"):
            self.found(("call", name, (), 0), PLAIN)
        else:
            self.begin(BRACKET, ")", ("call", name, ()), (mark,))

    def read_reference(self):
        """Read &x, or begin &a[e]."""
        self.cursor.step()
        name = self.cursor.want("name")
        if self.cursor.passes("["):
            self.begin(BRACKET, "]", ("refitem", name), (self.cursor.mark(),))
        else:
            self.found(("ref", name), PLAIN)

    def read_behind_operand(self):
        """Read a word where an operand stands in front."""
        sign = self.cursor.sign()
        if sign == "++":
            self.read_increment()
        elif sign in BINARY:
            self.read_binary(sign)
        elif sign in ASSIGNMENTS:
            self.read_assignment(sign)
        elif sign == "?":
            self.cursor.step()
            self.finish(CHOICE + 1)
            self.begin(BRACKET, ":", ("choice", self.operand), ())
        elif sign == ",":
            self.read_comma()
        elif sign in (")", "]", ":", ";"):
            self.close(sign)
        else:
            self.cursor.refuse()

    def read_increment(self):
        """Read a ++; it has a mark only if its place has a part."""
        if self.form == PLAIN:
            self.cursor.refuse()
        self.cursor.step()
        mark = 0 if self.operand[0] == "var" else self.cursor.mark()
        self.found(("inc", self.operand, mark), PLAIN)

    def read_binary(self, sign):
        """Read an operator between two parts, which groups to the left."""
        self.cursor.step()
        level = BINARY[sign]
        self.finish(level)
        if sign in LOGIC:
            self.begin(level, "", (LOGIC[sign], self.operand), ())
        else:
            self.begin(level, "", ("op", sign, self.operand), (self.cursor.mark(),))

    def read_assignment(self, sign):
        """Read = or +=, which needs a place in front and stands only where an A may begin."""
        self.finish(PREFIX)
        if self.form != PLACE or self.stack[-1][0] > ASSIGNMENT:
            self.cursor.refuse()
        self.cursor.step()
        self.begin(ASSIGNMENT, "", (ASSIGNMENTS[sign], self.operand), (self.cursor.mark(),))

    def read_comma(self):
        """Read a comma: one between two arguments, or the operator, where an E stands."""
        self.finish(COMMA)
        closer, head, tail = self.stack[-1][1:]
        if head[0] == "call":
            self.stack.pop()
            self.begin(BRACKET, closer, ("call", head[1], head[2] + (self.operand,)), tail)
        elif head[0] in COMMA_TAKERS:
            self.begin(COMMA, "", ("comma", self.operand), ())
        else:
            self.cursor.refuse()
        self.cursor.step()

    def close(self, sign):
        """Close the innermost bracket, the first arm of a ?:, or the whole expression."""
        self.finish(COMMA)
        closer, head, tail = self.stack.pop()[1:]
        if sign != closer:
            self.cursor.refuse()
        if head in (WHOLE, SINGLE):
            self.done = True
            return
        self.cursor.step()
        if head[0] == "choice":
            self.begin(CHOICE, "", ("cond", head[1], self.operand), ())
        elif head[0] == "group":
            is_boxed = self.form == PLACE and self.operand[0] == "at"
            self.form = BOXED if is_boxed else PLAIN
        elif head[0] == "call":
            self.found(("call", head[1], head[2] + (self.operand,)) + tail, PLAIN)
        else:
            is_place = head[0] == "item" and tail == (0,)
            self.found(head + (self.operand,) + tail, PLACE if is_place else PLAIN)

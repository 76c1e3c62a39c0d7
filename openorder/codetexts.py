"""Code as text, one line for each global, routine, param, local and ROW."""

from openorder.errors import BadCode
from openorder.lines import item_of

# The sorts of the items behind the first word of a line; ref begins a global in front of the
# routines, a ROW in them.
GLOBAL_FORMS = {"int": ("name", "value"), "array": ("name", "number"), "ref": ("name", "name", "number")}
KINDS_FORM = ("kind", "name")
ROW_FORMS = {
    "num": ("number", "value", "number"), "ref": ("number", "name", "number", "number"),
    "copy": ("number", "number", "number"), "get": ("number", "name", "number"),
    "geti": ("number", "name", "number", "number"), "getat": ("number", "number", "number"),
    "refi": ("number", "name", "number", "number"), "put": ("name", "number", "number"),
    "puti": ("name", "number", "number", "number"), "putat": ("number", "number", "number"),
    "op": ("number", "sign", "number", "number", "number"), "neg": ("number", "number", "number"),
    "not": ("number", "number", "number"), "unless": ("number", "number", "number"),
    "jump": ("number", "number"), "arg": ("number", "number"),
    "call": ("number", "name", "number", "number"), "print": ("number", "number"),
    "return": ("number", "number"), "spill": ("number", "number", "number"),
    "fill": ("number", "number", "number"),
}


def code_text(code):
    """Return the text of code."""
    entries, routines = code
    lines = [line_of(entry) for entry in entries]
    for name, params, inner, rows in routines:
        lines.append(f"routine {name}")
        lines.extend([f"param {kind} {param}" for kind, param in params])
        lines.extend([f"local {kind} {variable}" for kind, variable in inner])
        lines.extend([line_of(row) for row in rows])
    return "\n".join(lines)


def line_of(items):
    """Return the line of a global or a ROW."""
    return " ".join([str(item) for item in items])


def code_in(text):
    """Return the CODE with this text; raise BadCode(line) if there is none."""
    lines = text.split("\n")
    sections = Sections()
    for at, line in enumerate(lines):
        if not sections.takes(line.split(" ")):
            raise BadCode(at)
    if len(sections.routines) == 0:
        raise BadCode(len(lines))
    return sections.code()


class Sections:
    """The lines of a text of code, sorted as they come; each routine is a list of its parts."""

    def __init__(self):
        self.entries = []
        self.routines = []

    def code(self):
        """Return the CODE of the lines."""
        routines = []
        for name, params, inner, rows in self.routines:
            routines.append((name, tuple(params), tuple(inner), tuple(rows)))
        return (tuple(self.entries), tuple(routines))

    def takes(self, words):
        """Take the words of a line up, if it has a form that may come here; tell whether it has."""
        word = words[0]
        if word == "routine":
            items = items_of(words, ("name",))
            if items is not None:
                self.routines.append((items[0], [], [], []))
            return items is not None
        if len(self.routines) == 0:
            return word in GLOBAL_FORMS and put_behind(self.entries, words, GLOBAL_FORMS[word], (word,))
        _, params, inner, rows = self.routines[-1]
        if word == "param":
            return len(inner) == 0 and len(rows) == 0 and put_behind(params, words, KINDS_FORM, ())
        if word == "local":
            return len(rows) == 0 and put_behind(inner, words, KINDS_FORM, ())
        return word in ROW_FORMS and put_behind(rows, words, ROW_FORMS[word], (word,))


def put_behind(listed, words, form, front):
    """Put the items behind the first word into a list, if they have a form; tell whether they have."""
    items = items_of(words, form)
    if items is None:
        return False
    listed.append(front + items)
    return True


def items_of(words, form):
    """Return the tuple of the items behind the first word, or None if they do not have the form."""
    if len(words) != len(form) + 1:
        return None
    items = [item_of(word, sort) for word, sort in zip(words[1:], form)]
    return None if None in items else tuple(items)

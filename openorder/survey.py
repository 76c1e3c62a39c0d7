"""What of a full expression is begun, and what may be done next in it."""

from openorder.shapes import CHOOSING, array_in, is_marked, own_kind

DEEPEST = 11


def chosen_part(word, first, parts):
    """Return the part that begins behind the first one, whose value is first; None if none does."""
    if word == "comma":
        return parts[1]
    if word == "cond":
        return parts[1] if first != 0 else parts[2]
    if word == "and":
        return parts[1] if first != 0 else None
    return parts[1] if first == 0 else None


class Survey:
    """What a body may do next: possible has (node, kind), blocked has (node, word), by nodes."""

    def __init__(self, layout, body):
        self.layout = layout
        self.body = body
        self.possible = []
        self.blocked = []
        self.is_whole = self.look(body.top)

    def look(self, node):
        """Look at a node that is begun and at what is begun in it; tell whether it is whole."""
        are_whole, may_step = self.look_at_parts(node)
        if node in self.body.due:
            self.possible.append((node, "write"))
            return False
        if node in self.body.worked:
            return are_whole
        if may_step:
            self.look_at_step(node)
        return False

    def look_at_parts(self, node):
        """Look at the parts that are begun.

        Tell whether they are whole, and whether the own step need not wait for them any longer.
        """
        expression = self.layout.expressions[node]
        parts = self.layout.parts[node]
        if expression[0] in CHOOSING:
            return self.look_at_chosen(expression[0], parts)
        if is_marked(expression):
            return self.look_in_turn(parts)
        are_whole = all([self.look(part) for part in parts])
        if expression[0] == "call":
            return are_whole, are_whole
        return are_whole, all([part in self.body.worked for part in parts])

    def look_at_chosen(self, word, parts):
        """Look at the first part and, when that is whole, at the one that it chooses."""
        if not self.look(parts[0]):
            return False, False
        chosen = chosen_part(word, self.body.worked[parts[0]], parts)
        if chosen is None:
            return True, True
        is_whole = self.look(chosen)
        return is_whole, chosen in self.body.worked

    def look_in_turn(self, parts):
        """Look at the parts of a marked node, each when the one before is whole."""
        for part in parts:
            if not self.look(part):
                return False, False
        return True, True

    def look_at_step(self, node):
        """Look at an own step that waits for nothing: it is possible, or it is blocked."""
        if node in self.body.failed:
            self.blocked.extend(self.body.failed[node])
            return
        expression = self.layout.expressions[node]
        word = self.hindrance(expression, self.layout.parts[node])
        if word == "":
            self.possible.append((node, own_kind(expression)))
        else:
            self.blocked.append((node, word))

    def hindrance(self, expression, parts):
        """Return the word that tells why an own step blocks, or "" if it can be done."""
        if expression[0] == "call":
            return "deep" if self.body.depth >= DEEPEST else ""
        if expression[0] == "op":
            is_nought = expression[1] in ("/", "~") and self.body.worked[parts[1]] == 0
            return "nought" if is_nought else ""
        array = array_in(expression)
        if array == "":
            return ""
        index = self.body.worked[parts[0]]
        return "" if 0 <= index < self.layout.sizes[array] else "index"

"""Where the temporaries of code come from: each only once, or few of them again and again."""


class Fresh:
    """Temporaries of which each is taken only once."""

    def __init__(self):
        self.many = 0

    def take(self):
        """Return a temporary that is not in use."""
        self.many += 1
        return self.many - 1

    def leave(self, temporary):
        """Let a temporary be no longer in use; it is not taken again, all the same."""

    def joint(self):
        """Return the temporary for a value that comes on one of two ways."""
        return self.take()

    def hold(self, temporary):
        """Let the joint temporary be in use, behind both ways."""


class Registers:
    """A few temporaries, which are taken again when they are no longer in use."""

    def __init__(self, many):
        self.is_free = [True] * many

    def take(self):
        """Return the least temporary that is not in use; the PLANs see to it that there is one."""
        temporary = self.is_free.index(True)
        self.is_free[temporary] = False
        return temporary

    def leave(self, temporary):
        """Let a temporary be no longer in use."""
        self.is_free[temporary] = True

    def joint(self):
        """Return the temporary for a value that comes on one of two ways, free while they begin."""
        return self.is_free.index(True)

    def hold(self, temporary):
        """Let the joint temporary be in use, behind both ways."""
        self.is_free[temporary] = False

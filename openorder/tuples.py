"""Lists may stand where the document says tuples; inside the package everything is made of tuples."""


def tuples_of(value):
    """Return the value with tuples in the place of lists, at any depth."""
    if isinstance(value, (list, tuple)):
        return tuple([tuples_of(part) for part in value])
    return value

"""Short ways to write expressions, rows and deeds in the tests."""


def num(value):
    return ("number", value)


def nam(name):
    return ("name", name)


def call(mark, called, args=(), name="x"):
    return ("call", name, called, tuple(args), mark)


def deed(name, params=(), rows=(), give=("number", 0)):
    return (name, tuple(params), tuple(rows), give)


def nested(depth, leaf=("number", 1)):
    """An expression of that depth, deep on its left."""
    expression = leaf
    for _ in range(depth - 1):
        expression = ("plus", expression, num(1))
    return expression


def turned(depth, inmost):
    """A row of turns around a row, which then stands that deep."""
    row = inmost
    for _ in range(depth - 1):
        row = ("turn", num(1), (row,))
    return row

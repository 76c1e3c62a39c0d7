"""Integers that wrap around, and what the operations give."""

SPAN = 4294967296
LEAST = -2147483648
GREATEST = 2147483647


def wrapped(number):
    """Return the value that a number outside of the values wraps around to."""
    if LEAST <= number <= GREATEST:
        return number
    return (number - LEAST) % SPAN + LEAST


def calculated(sign, left, right):
    """Return what an operation gives; the right one is not 0 for / and ~."""
    if sign == "<":
        return 1 if left < right else 0
    if sign == "==":
        return 1 if left == right else 0
    if sign == "+":
        number = left + right
    elif sign == "-":
        number = left - right
    elif sign == "*":
        number = left * right
    elif sign == "/":
        number = left // right
    else:
        number = left - right * (left // right)
    return number if LEAST <= number <= GREATEST else wrapped(number)

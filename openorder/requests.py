"""Requests to a desk, read from lines."""

from openorder.errors import BadLine, BadText
from openorder.lines import is_name, is_number, is_value
from openorder.reader import function_in

PLAIN_WORDS = ("check", "mend", "undo", "show")
LEAST_REGISTERS = 3
MOST_REGISTERS = 8


def requests_in(lines, first):
    """Return the list of the requests in lines, the first of which has this index; raise BadLine(at)."""
    requests = []
    for at, line in enumerate(lines):
        request = request_in(line)
        if request is None:
            raise BadLine(first + at)
        requests.append(request)
    return requests


def request_in(line):
    """Return the request in a line as a tuple, its word first; None if there is none."""
    words = line.split(" ")
    word = words[0]
    if word == "fun":
        return request_with_function(line)
    if word in ("run", "conflict"):
        return request_with_run(word, words[1:])
    if word == "code":
        return request_with_code(words[1:])
    if word == "take":
        return ("take", words[1]) if len(words) == 2 and is_name(words[1]) else None
    return (word,) if word in PLAIN_WORDS and len(words) == 1 else None


def request_with_function(line):
    """Return the request with a function's text."""
    try:
        return ("fun", function_in(line))
    except BadText:
        return None


def request_with_run(word, numbers):
    """Return the request with inputs, and with choices behind a slash, if there is one."""
    choices = []
    if "/" in numbers:
        at = numbers.index("/")
        numbers, choices = numbers[:at], numbers[at + 1:]
        if len(choices) == 0:
            return None
    if not all([is_value(number) for number in numbers]) or not all([is_number(number) for number in choices]):
        return None
    return (word, [int(number) for number in numbers], [int(number) for number in choices])


def request_with_code(numbers):
    """Return the request with a number of registers and inputs."""
    if len(numbers) == 0 or not is_number(numbers[0]):
        return None
    registers = int(numbers[0])
    if not LEAST_REGISTERS <= registers <= MOST_REGISTERS:
        return None
    inputs = numbers[1:]
    if not all([is_value(number) for number in inputs]):
        return None
    return ("code", registers, [int(number) for number in inputs])

"""Texts of flows and of what belongs to them."""

from wirebeats.errors import BadFlow, BadText
from wirebeats.flows import KINDS, flow_error

DIGITS = "0123456789"
MAX_DIGITS = 12


def vector_text(vector):
    return ",".join([str(item) for item in vector])


def numbers_text(numbers):
    return " ".join([str(number) for number in numbers])


def beats_text(beats):
    return f"{vector_text(beats[0])} {numbers_text(beats[1])}"


def read_text(read):
    return f"{read[0]}@{vector_text(read[1])}"


def rule_text(rule):
    return " ".join([rule[0]] + [read_text(read) for read in rule[1:]])


def flow_text(flow):
    return " ".join([str(flow[0])] + [f"/ {rule_text(rule)}" for rule in flow[1]])


def parse_integer(text):
    """The integer with this text, or None if there is none or it is too long."""
    digits = text[1:] if text.startswith("-") else text
    if not 1 <= len(digits) <= MAX_DIGITS or not all([sign in DIGITS for sign in digits]):
        return None
    number = int(text)
    # Leading zeros and the minus of a zero are not in the text of an integer.
    return number if str(number) == text else None


def parse_vector(dims, text):
    """The vector with this text and so many items, or None."""
    items = [parse_integer(item) for item in text.split(",")]
    return None if None in items or len(items) != dims else tuple(items)


def parse_read(dims, text):
    """The read with this text, or None; its plane may be any integer from 0 on."""
    parts = text.split("@")
    if len(parts) != 2:
        return None
    plane = parse_integer(parts[0])
    vector = parse_vector(dims, parts[1])
    return None if plane is None or plane < 0 or vector is None else (plane, vector)


def parse_rule(dims, words, at):
    """The rule whose sign / should be the word with the index at."""
    if at == len(words) or words[at] != "/":
        raise BadText(at)
    if at + 1 == len(words) or words[at + 1] not in KINDS:
        raise BadText(at + 1)
    kind = words[at + 1]
    reads = []
    for index in range(at + 2, at + 2 + KINDS[kind]):
        read = parse_read(dims, words[index]) if index < len(words) else None
        if read is None:
            raise BadText(index)
        reads.append(read)
    return (kind,) + tuple(reads)


def parse_flow(value):
    """The flow whose text value is."""
    if not isinstance(value, str):
        raise BadText(None)
    words = value.split(" ")
    if words[0] not in ("2", "3"):
        raise BadText(0)
    dims = int(words[0])
    rules = []
    at = 1
    while at < len(words) or not rules:
        rule = parse_rule(dims, words, at)
        rules.append(rule)
        at = at + 1 + len(rule)
    flow = (dims, tuple(rules))
    error = flow_error(flow)
    if error is not None:
        raise BadFlow(error)
    return flow

"""Webs as texts (point 5)."""

from shiftcore.checks import MOST_EDGES, MOST_LABEL, MOST_STATES, check_web
from shiftcore.errors import InvalidText, NotText

DIGITS = "0123456789"
# A longer row of digits is out of every range; Python refuses to read very long ones.
MOST_DIGITS = 2


def write_web(web):
    """Return the text of a web."""
    check_web(web)
    edges = [f"; {start} {end} {label}" for start, end, label in web[1]]
    return str(web[0]) + "".join(edges)


def read_web(text):
    """Return the web that a text names."""
    if not isinstance(text, str):
        raise NotText("not a string")
    many, at = _number(text, 0, MOST_STATES)
    edges = []
    at = _past_spaces(text, at)
    while at < len(text):
        if text[at] != ";" or len(edges) == MOST_EDGES:
            raise InvalidText(at)
        edge, place, at = _edge(text, at + 1, many)
        if edges and edge <= edges[-1]:
            raise InvalidText(place)
        edges.append(edge)
        at = _past_spaces(text, at)
    return many, tuple(edges)


def _edge(text, at, many):
    """Return the edge that a text has at a place, where its start stands, and the place behind it."""
    place = _past_spaces(text, at)
    start, at = _number(text, place, many - 1)
    end, at = _number(text, at, many - 1)
    label, at = _number(text, at, MOST_LABEL)
    return (start, end, label), place, at


def _number(text, at, most):
    """Return the number from 0 to `most` that a text has at a place, and the place behind it."""
    first = _past_spaces(text, at)
    last = first
    while last < len(text) and text[last] in DIGITS:
        last += 1
    digits = text[first:last]
    if digits == "" or len(digits) > MOST_DIGITS or int(digits) > most:
        raise InvalidText(first)
    if digits[0] == "0" and digits != "0":
        raise InvalidText(first)
    return int(digits), last


def _past_spaces(text, at):
    """Return the first place from `at` on at which no space stands."""
    while at < len(text) and text[at] == " ":
        at += 1
    return at

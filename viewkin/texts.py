"""Webs and views as texts."""

from viewkin.errors import BadText
from viewkin.webs import Web

FIGURES = "0123456789"
MOST_FIGURES = 4


def web_text(web):
    """The text of a web: a line with its colours, and one with its ties."""
    colours = " ".join([str(colour) for colour in web.colours])
    return colours + "\n" + " ".join([f"{low}-{high}" for low, high in web.ties])


def read_web(text):
    """The web with a text."""
    if not isinstance(text, str):
        raise BadText(None)
    line, mark, rest = text.partition("\n")
    colours = read_colours(line)
    if mark == "":
        raise BadText(len(line))
    return Web(colours, read_ties(rest, len(line) + 1))


def read_colours(line):
    """The colours that the first line of a text tells."""
    for number, sign in enumerate(line):
        if sign not in (" " if number % 2 == 1 else FIGURES):
            raise BadText(number)
    if len(line) % 2 == 0:
        raise BadText(len(line))
    return [int(figure) for figure in line[::2]]


def read_ties(text, start):
    """The ties that the second line of a text tells, which starts at this number in its text."""
    ties = []
    known = {}
    words = text.split(" ") if text != "" else []
    for word in words:
        low, mark, high = word.partition("-")
        # Most numbers stand in many ties, so each of them is looked through but once.
        if low not in known or high not in known:
            fault = tie_fault(word)
            if fault is not None:
                raise BadText(start + fault)
            known[low] = int(low)
            known[high] = int(high)
        ties.append((known[low], known[high]))
        start += len(word) + 1
    return ties


def tie_fault(word):
    """The number of the first character at which a word goes on as no tie does, or None."""
    first = number_length(word)
    if first == 0 or word[first:first + 1] != "-":
        return first
    last = number_length(word[first + 1:])
    length = first + 1 + last
    return None if last > 0 and length == len(word) else length


def number_length(text):
    """How many characters at the front of a text make the longest number of a place; 0 if none does."""
    if text[:1] == "0":
        return 1
    length = 0
    while length < min(len(text), MOST_FIGURES) and text[length] in FIGURES:
        length += 1
    return length


def view_text(value):
    """The text of a view."""
    colour, near = value
    if len(near) == 0:
        return str(colour)
    return str(colour) + "(" + " ".join([view_text(seen) for seen in near]) + ")"

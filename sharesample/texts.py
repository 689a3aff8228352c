"""Drawings and lists of fractions as texts, and back."""

from sharesample.drawings import check_drawing, is_drawing
from sharesample.errors import NoText, NoWorths
from sharesample.fracs import is_fraction
from sharesample.guesses import check_worths

LONGEST = 40
FIGURES = "0123456789"


def shown_fraction(part):
    if part[1] == 1:
        return str(part[0])
    return str(part[0]) + "/" + str(part[1])


def shown_row(row):
    return " ".join([shown_fraction(row[0]), ":"] + [str(house) for house in row[1]])


def shown_drawing(drawing):
    check_drawing(drawing)
    return "\n".join(["houses " + str(drawing[0])] + [shown_row(row) for row in drawing[1]])


def shown_list(some):
    if not isinstance(some, list) or len(some) < 1:
        raise NoWorths("no list of one fraction or more")
    check_worths(some, len(some))
    return " ".join([shown_fraction(part) for part in some])


# What reads a part of a text tells None where it isn't written so: which refusal comes of it, the asker knows.


def read_whole(word, longest):
    # The length comes first: int takes no text of some thousand figures.
    if word == "" or len(word) > longest or not all([sign in FIGURES for sign in word]):
        return None
    return int(word) if word == "0" or word[0] != "0" else None


def read_top(word, longest):
    if not word.startswith("-"):
        return read_whole(word, longest)
    size = read_whole(word[1:], longest)
    return None if size is None else -size


def read_fraction(word, longest):
    parts = word.partition("/")
    bottom = 1 if parts[1] == "" else read_whole(parts[2], longest)
    told = (read_top(parts[0], longest), bottom)
    # Well written is what would be shown so: neither -0 nor a bottom of 1 is.
    if not is_fraction(told) or shown_fraction(told) != word:
        return None
    return told


def read_count(line):
    words = line.split(" ")
    if len(words) != 2 or words[0] != "houses":
        return None
    return read_whole(words[1], LONGEST)


def read_row(line):
    words = line.split(" ")
    if len(words) < 2 or words[1] != ":":
        return None
    return (read_fraction(words[0], LONGEST), tuple([read_whole(word, LONGEST) for word in words[2:]]))


def check_text(thing):
    if not isinstance(thing, str):
        raise NoText("no text")


def read_drawing(text):
    check_text(text)
    lines = text.split("\n")
    told = (read_count(lines[0]), [read_row(line) for line in lines[1:]])
    # None in any place makes it no drawing either.
    if not is_drawing(told):
        raise NoText("no drawing")
    return told


def read_list(text):
    check_text(text)
    told = [read_fraction(word, LONGEST) for word in text.split(" ")]
    if None in told:
        raise NoText("no list of fractions")
    return told

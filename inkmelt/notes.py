"""Notes: rules written as texts, and texts read as rules."""

from inkmelt.cases import AHEAD, BEHIND, GIVE, TAKE, has_right_numbers
from inkmelt.errors import NoNote

FIGURES = "0123456789"
# The figures of 999: with more of them a shape is above it, or has a nought ahead.
MOST_FIGURES = 3
PARTS = 4


def shown(rule):
    behind = "".join([f"{shape} " for shape in rule[BEHIND]])
    take = spaced(rule[TAKE])
    ahead = "".join([f" {shape}" for shape in rule[AHEAD]])
    give = spaced(rule[GIVE])
    return f"{behind}[{take}]{ahead}>{give}"


# The text is taken apart loosely: that blanks, signs and noughts stand as they should
# is seen where the rule, written anew, is the text again.
def read(text):
    parts = text.replace("]", "[").replace(">", "[").split("[")
    if len(parts) != PARTS:
        raise NoNote("a note has one each of its three signs")
    rule = tuple([shapes_in(part) for part in parts])
    if not has_right_numbers(rule):
        raise NoNote("a part of a note has a wrong number of shapes")
    if shown(rule) != text:
        raise NoNote("a note is not written so")
    return rule


def spaced(shapes):
    return " ".join([str(shape) for shape in shapes])


def shapes_in(part):
    return tuple([shape_in(word) for word in part.split()])


def shape_in(word):
    if len(word) > MOST_FIGURES or not all([sign in FIGURES for sign in word]):
        raise NoNote("a note has something that is no shape")
    return int(word)

"""Texts: how a program is written, and how a text is read again."""

from latewrite.deeds import guard_of
from latewrite.errors import NoText, TooGreat

MOST_HANDS = 6
MOST_DEEDS = 40
MOST_LETTERS = 8
MOST_FIGURES = 60
LETTERS = "abcdefghijklmnopqrstuvwxyz"
FIGURES = "0123456789"

# What stands behind the first word of each deed, ahead of its guard.
SHAPES = {
    "put": ("name", "number"),
    "get": ("name", "name"),
    "swap": ("name", "name", "number"),
    "fence": (),
    "bar": (),
}
GUARD_WORDS = ("when", "unless")
GUARD_SHAPE = ("name", "number")


def read(text):
    hands = text.split(" | ")
    for h, hand in enumerate(hands):
        if not is_hand(hand):
            raise NoText(h)
    program = [read_hand(hand) for hand in hands]
    # Only here, since a hand that is none goes ahead of too many hands or deeds.
    if len(program) > MOST_HANDS or sum([len(hand) for hand in program]) > MOST_DEEDS:
        raise TooGreat("more than six hands or forty deeds")
    return program


def shown(program):
    return " | ".join([show_hand(hand) for hand in program])


def show_hand(hand):
    return "; ".join([show_deed(deed) for deed in hand]) if hand != [] else "idle"


def show_deed(deed):
    guard = guard_of(deed)
    words = deed[:-1] if guard is None else deed[:-1] + guard
    return " ".join([str(word) for word in words])


def is_hand(text):
    return text == "idle" or all([is_deed(part) for part in text.split("; ")])


def is_deed(text):
    words = text.split(" ")
    if words[0] not in SHAPES:
        return False
    size = deed_size(words)
    return fits(words[1:size], SHAPES[words[0]]) and is_guard(words[size:])


# By number, not by looking for `when` or `unless`: these may be names, too.
def deed_size(words):
    return 1 + len(SHAPES[words[0]])


def is_guard(words):
    return words == [] or (words[0] in GUARD_WORDS and fits(words[1:], GUARD_SHAPE))


def fits(words, shape):
    if len(words) != len(shape):
        return False
    return all([is_number(word) if kind == "number" else is_name(word) for word, kind in zip(words, shape)])


def is_name(word):
    return made_of(word, LETTERS, MOST_LETTERS)


def is_number(word):
    figures = word[1:] if word.startswith("-") else word
    if not made_of(figures, FIGURES, MOST_FIGURES):
        return False
    return word == "0" or not figures.startswith("0")


def made_of(word, signs, most):
    return 1 <= len(word) <= most and all([sign in signs for sign in word])


def read_hand(text):
    return [] if text == "idle" else [read_deed(part) for part in text.split("; ")]


def read_deed(text):
    words = text.split(" ")
    values = [int(word) if is_number(word) else word for word in words]
    size = deed_size(words)
    guard = tuple(values[size:]) if len(values) > size else None
    return tuple(values[:size] + [guard])

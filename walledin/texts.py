"""Texts of yards and of orders."""

from walledin.checks import MOST_WALLS, order_check, text_check, yard_check
from walledin.errors import InvalidText
from walledin.yards import every_number

DIGITS = "0123456789"
SIGNS = "<>="
# How many signs the text of a yard has for its rooms, and how many for each wall, the space behind it included.
HEAD = 2
STEP = 4


def write_yard(yard):
    """Return the text of a yard."""
    yard_check(yard)
    return f"{yard[0]}:" + " ".join([f"{low}{SIGNS[side]}{high}" for low, high, side in yard[1]])


def signs_due(text, place):
    """Return the signs that can stand at a place of the text of a yard behind those that stand there."""
    if place == 0:
        return DIGITS[1:]
    if place == 1:
        return ":"
    many = int(text[0])
    part = (place - HEAD) % STEP
    if part == 0:
        return DIGITS[:many - 1]
    if part == 1:
        return SIGNS
    if part == 2:
        return DIGITS[int(text[place - 2]) + 1:many]
    if place == HEAD + MOST_WALLS * STEP - 1:
        return ""
    return " "


def can_end(length):
    """Tell whether the text of a yard can be so long."""
    return length == HEAD or (length > HEAD and (length - HEAD) % STEP == STEP - 1)


def read_yard(text):
    """Return the yard of a text."""
    text_check(text)
    for place, sign in enumerate(text):
        if sign not in signs_due(text, place):
            raise InvalidText(place)
    if not can_end(len(text)):
        raise InvalidText(len(text))
    walls = [(int(text[at]), int(text[at + 2]), SIGNS.index(text[at + 1])) for at in range(HEAD, len(text), STEP)]
    return (int(text[0]), tuple(walls))


def write_order(yard, order):
    """Return the text of an order."""
    yard_check(yard)
    order_check(yard, order)
    return ",".join([str(number) for number in order])


def digits_from(text, place):
    """Return the digits that stand in a text from a place on."""
    end = place
    while end < len(text) and text[end] in DIGITS:
        end += 1
    return text[place:end]


def read_order(yard, text):
    """Return the order of a text."""
    yard_check(yard)
    text_check(text)
    left = [str(number) for number in every_number(yard)]
    order = []
    place = 0
    while left:
        word = digits_from(text, place)
        if word not in left:
            raise InvalidText(place)
        left.remove(word)
        order.append(int(word))
        place += len(word)
        if left:
            if text[place:place + 1] != ",":
                raise InvalidText(place)
            place += 1
    if place < len(text):
        raise InvalidText(place)
    return tuple(order)

"""Rings: ways that lead back to their first room; and round yards, in which one comes to all rooms and back."""

from walledin.checks import yard_check
from walledin.choices import choices, is_holding, sided
from walledin.yards import distances, every_number, free_distances, told_steps, without


def is_ringless(yard):
    """Tell whether there is no ring."""
    yard_check(yard)
    steps = told_steps(yard, every_number(yard))
    return not any(here in distances(steps, (there,)) for here, there in steps)


def ringless_choices(yard):
    """Return the ascending list of the choices that leave an order and no ring."""
    return [choice for choice in choices(yard) if is_ringless(sided(yard, choice))]


def count_ringless(yard):
    """Return how many choices leave an order and no ring."""
    return len(ringless_choices(yard))


def is_round(yard):
    """Tell whether one comes from outside to each room that has a wall, and from each of these to outside."""
    rooms = round_rooms(yard)
    return all(low in rooms and high in rooms for low, high, _ in yard[1])


def round_rooms(yard):
    """Return the rising tuple of the rooms to which one comes from outside and from which one comes back."""
    yard_check(yard)
    steps = told_steps(yard, every_number(yard))
    come = distances(steps, (0,))
    back = distances([(there, here) for here, there in steps], (0,))
    return tuple(room for room in range(yard[0]) if room in come and room in back)


def round_choices(yard):
    """Return the ascending list of the choices that make the yard round."""
    # In a round yard each wall may be set from a room that one comes to, so there is an order.
    return [choice for choice in choices(yard) if is_round(sided(yard, choice))]


def count_round(yard):
    """Return how many choices make the yard round."""
    return len(round_choices(yard))


def bridges(yard):
    """Return the lot of the walls without whose gap alone one does not come from one of its rooms to the other."""
    yard_check(yard)
    every = every_number(yard)
    return tuple(number for number in every
                 if yard[1][number][1] not in free_distances(yard, without(every, number), yard[1][number][:1]))


def can_be_round(yard):
    """Tell whether some choice makes the yard round."""
    yard_check(yard)
    return is_holding(yard, every_number(yard)) and not bridges(yard)

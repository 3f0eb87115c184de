"""Plans: on which day masons set which walls at once."""

from itertools import combinations

from walledin.checks import MOST_WALLS, number_check, rises, yard_check
from walledin.counts import all_bits
from walledin.lots import bits_of, growth
from walledin.orders import has_order
from walledin.trees import tree_check
from walledin.ways import least_back
from walledin.yards import can_set, every_number, told_distances


def is_day(yard, lot):
    """Tell whether any value is a lot that is not empty."""
    return rises(lot, len(yard[1])) and len(lot) > 0


def is_plan(yard, days):
    """Tell whether any value is a plan."""
    yard_check(yard)
    if not isinstance(days, tuple) or not all(is_day(yard, lot) for lot in days):
        return False
    later = []
    for lot in days[::-1]:
        come = told_distances(yard, later, (0,))
        if not all(number not in later and can_set(yard[1][number], come) for number in lot):
            return False
        later.extend(lot)
    return len(later) == len(yard[1])


def full_days(numbers, masons):
    """Return the bits of the lots that so many masons can set at once of some walls, leaving as few as can be."""
    if len(numbers) <= masons:
        return [bits_of(numbers)]
    return [bits_of(lot) for lot in combinations(numbers, masons)]


def fewest_days(yard, masons):
    """Return on how few days so many masons set all walls, None if there is no plan."""
    yard_check(yard)
    number_check(masons, 1, MOST_WALLS)
    comers = growth(yard)
    goal = all_bits(yard)
    if goal not in comers:
        return None
    days = 0
    lots = {0: True}
    # Read from the end, a day with more walls is as good as one with some of them: more gaps never bar a wall.
    while goal not in lots:
        lots = {lot | day: True for lot in lots for day in full_days(comers[lot], masons)}
        days += 1
    return days


def masons_for(yard, days):
    """Return the least number of masons for whom at most so many days are enough, None if there is none."""
    yard_check(yard)
    number_check(days, 0, MOST_WALLS)
    if not has_order(yard):
        return None
    for masons in range(1, MOST_WALLS + 1):
        if fewest_days(yard, masons) <= days:
            return masons
    return None


def late_plan(yard):
    """Return the plan in which each wall is set as late as can be, None if no order can be walked."""
    if not has_order(yard):
        return None
    backs = [least_back(yard, number) for number in every_number(yard)]
    days = []
    for back in range(max(backs, default=0), 0, -1):
        days.append(tuple(number for number in every_number(yard) if backs[number] == back))
    return tuple(days)


def tree_days(yard, masons):
    """Return on how few days so many masons set all walls of a tree."""
    tree_check(yard)
    return fewest_days(yard, masons)


def widest(yard):
    """Return the greatest number of walls that can come to an open lot."""
    yard_check(yard)
    comers = growth(yard)
    return max(len(comers[lot]) for lot in comers)


def room_depths(yard):
    """Return the tuple, for each room, of the fewest gaps from outside, None for a room that is not come to."""
    yard_check(yard)
    found = told_distances(yard, every_number(yard), (0,))
    return tuple(found.get(room) for room in range(yard[0]))

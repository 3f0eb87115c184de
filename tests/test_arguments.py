"""Point 1: wrong arguments of every function, and what holds of every function with right ones."""

import copy
import unittest
from itertools import combinations, product

from tests.calls import CALLS, CLASSES, ODD, RIGHT, WRONG, WRONG_YARDS, YARD, error_for
from walledin.errors import BadTree, BadYard, NotTree, WallError


def right_rows(kinds):
    """Rows of right arguments for some kinds; two walls that must be unlike are so."""
    for row in product(*[RIGHT[kind] for kind in kinds]):
        if "other" not in kinds or row[kinds.index("other")] != row[kinds.index("other") - 1]:
            yield row


def raised(function, row):
    """The error that a call raises, None if it raises none."""
    try:
        function(*row)
    except WallError as error:
        return error
    return None


class WrongArguments(unittest.TestCase):
    def expect(self, function, row, kind, value):
        error = raised(function, row)
        self.assertIs(type(error), error_for(kind, value), f"{function.__name__}{row!r}")

    def test_each_wrong_value(self):
        for function, kinds in CALLS + CLASSES:
            right = next(right_rows(kinds))
            for at, kind in enumerate(kinds):
                for value in WRONG[kind]:
                    self.expect(function, right[:at] + (value,) + right[at + 1:], kind, value)

    def test_two_wrong_values_at_once(self):
        for function, kinds in CALLS + CLASSES:
            right = next(right_rows(kinds))
            for one, other in combinations(range(len(kinds)), 2):
                for first, second in product(WRONG[kinds[one]][::2], WRONG[kinds[other]][::3]):
                    row = list(right)
                    row[one], row[other] = first, second
                    self.expect(function, tuple(row), kinds[one], first)

    def test_all_wrong_at_once(self):
        for function, kinds in CALLS + CLASSES:
            for value in ODD:
                self.expect(function, (value,) * len(kinds), kinds[0], value)

    def test_index_of_bad_yards(self):
        for function, kinds in CALLS + CLASSES:
            right = next(right_rows(kinds))
            for at, kind in enumerate(kinds):
                if kind not in ("yard", "tree", "limited"):
                    continue
                for value in ODD:
                    self.assertIsNone(raised(function, right[:at] + (value,) + right[at + 1:]).index)
                for value, index in WRONG_YARDS:
                    error = raised(function, right[:at] + (value,) + right[at + 1:])
                    self.assertIs(type(error), BadYard)
                    self.assertEqual(error.index, index, value)

    def test_no_number_of_a_wall_without_walls(self):
        for function, kinds in CALLS + CLASSES:
            if len(kinds) > 1 and kinds[1] == "number":
                for value in (0, 1, -1, None):
                    self.expect(function, ((1, ()), value) + (1,) * (len(kinds) - 2), "number", value)

    def test_yards_without_an_order(self):
        back = (3, ((0, 1, 0), (1, 2, 1)))
        right = {"yard": back, "number": 0, "other": 1, "lot": (1,), "room": 2, "order": (0, 1), "rooms": (2,),
                 "rank": 0, "side": 0, "walls": (), "row": (0, 0), "masons": 1, "days": 1, "any": None,
                 "windows": ((0, 2), (0, 2)), "place": 0, "ends": (2,), "sides": (0, 0), "chance": (1, 2), "inner": 2,
                 "limited": back, "mover": 0, "text": "1:", "order_text": "1,0", "names": (2, 1)}
        for function, kinds in CALLS + CLASSES:
            if "tree" in kinds or "span" in kinds:
                # This yard is no tree, and has no span.
                continue
            for at, kind in enumerate(kinds):
                for value in WRONG[kind]:
                    row = [right[kind] for kind in kinds]
                    row[at] = value
                    # What is too short an order elsewhere is one of this yard.
                    if repr(value) != repr(right[kind]):
                        self.expect(function, tuple(row), kind, value)

    def test_other_yards_than_trees(self):
        others = [(3, ((0, 1, 0), (1, 2, 1))), (4, YARD[1] + YARD[1]), (5, ((0, 1, 0), (2, 3, 0))), (2, ((0, 1, 1),))]
        for function, kinds in CALLS + CLASSES:
            if kinds[0] == "tree":
                right = next(right_rows(kinds))
                for yard in others:
                    self.assertIs(type(raised(function, (yard,) + right[1:])), NotTree)
                    for value in ODD:
                        self.assertIs(type(raised(function, (yard,) + (value,) * len(right[1:]))), NotTree)

    def test_other_lots_than_spans(self):
        for function, kinds in CALLS + CLASSES:
            if "span" in kinds:
                for lot in ((), (0,), (1, 2), (0, 2)):
                    self.assertIs(type(raised(function, (YARD, lot))), BadTree)
                for value in WRONG["yard"]:
                    self.assertIs(type(raised(function, (value, (0,)))), BadYard)

    def test_greatest_yards_are_right(self):
        for function, kinds in CALLS + CLASSES:
            if kinds == ("yard",):
                function((1, ()))
                function((9, ()))
                function((9, ((0, 8, 0),) * 12))


class RightArguments(unittest.TestCase):
    def test_no_error_and_the_same_answer_again(self):
        for function, kinds in CALLS:
            for row in right_rows(kinds):
                kept = copy.deepcopy(row)
                answer = function(*row)
                self.assertEqual(row, kept)
                self.assertEqual(repr(function(*kept)), repr(answer), function.__name__)

    def test_returned_lists_are_new(self):
        for function, kinds in CALLS:
            for row in right_rows(kinds):
                answer = function(*row)
                if isinstance(answer, list):
                    kept = list(answer)
                    answer.append(None)
                    self.assertEqual(function(*row), kept)

    def test_wrong_arguments_are_not_changed(self):
        for function, kinds in CALLS:
            for value in ({0: [1]}, [0, [1]], ([0], {1: 2})):
                kept = copy.deepcopy(value)
                raised(function, (value,) * len(kinds))
                raised(function, (YARD,) + (value,) * (len(kinds) - 1))
                self.assertEqual(value, kept)


if __name__ == "__main__":
    unittest.main()

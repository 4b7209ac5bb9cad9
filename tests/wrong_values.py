"""Values of every kind that a caller may pass, and ways to watch what a call does with them."""

import copy

NO_INTEGERS = [
    None, True, False, "", "2", "prime", (), (2,), ("2",), [], [2], {}, {2: 3}, {"prime": 2},
    ((),), ((1,),), ([1],), [(1,)], ((1, 0), (0, 1)), (None,), (True,), ({},),
]
FAR_INTEGERS = [-(10 ** 30), -100001, -1, 100001, 10 ** 30]
NO_ROW_PARTS = NO_INTEGERS + FAR_INTEGERS


def put_in(row, place, value):
    """Return a tuple with another value at a place."""
    return row[:place] + (value,) + row[place + 1:]


class WrongValueTests:
    """What test cases need to ask for errors; stands beside unittest.TestCase."""

    def assert_raises_exactly(self, error, function, *args, **fields):
        """The call raises this very error with these fields, and leaves its arguments alone."""
        before = copy.deepcopy(args)
        with self.assertRaises(error) as caught:
            function(*args)
        self.assertIs(type(caught.exception), error, args)
        for name, value in fields.items():
            self.assertEqual(getattr(caught.exception, name), value, args)
        self.assertEqual(repr(args), repr(before))

    def assert_leftmost_raised(self, function, right, wrong):
        """Of more wrong arguments the leftmost one's error is raised; wrong has pairs of a value and its error."""
        for first, (value, error) in enumerate(wrong):
            for more in range(2 ** (len(wrong) - first - 1)):
                rest = [wrong[k][0] if more >> (k - first - 1) & 1 else right[k] for k in range(first + 1, len(wrong))]
                self.assert_raises_exactly(error, function, *right[:first], value, *rest, *right[len(wrong):])

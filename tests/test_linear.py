"""The interface of alnage/linear.py, and point 4.5 for rows of whole numbers."""
import copy
import fractions as library
import itertools
import math
import random
import unittest

from alnage import linear
from alnage.linear import System, shows_none


def value(row, numbers):
    return sum(factor * number for factor, number in zip(row, numbers))


def shows(rows, right, weights):
    """What `shows_none` is to return, by the fractions of Python's library."""
    parts = [library.Fraction(*weight) for weight in weights]
    columns = list(zip(*rows))
    return (len(weights) == len(rows) and all(value(column, parts).denominator == 1 for column in columns)
            and value(right, parts).denominator != 1)


def determinant(rows):
    """The determinant of a square of integers, by its first row."""
    if not rows:
        return 1
    return sum((-1) ** place * number * determinant([row[:place] + row[place + 1:] for row in rows[1:]])
               for place, number in enumerate(rows[0]) if number)


def minors(rows, size, count):
    """All determinants of so many rows and columns."""
    for some in itertools.combinations(rows, size):
        for columns in itertools.combinations(range(count), size):
            yield determinant([[row[column] for column in columns] for row in some])


def rank(rows, count):
    return max(size for size in range(min(len(rows), count) + 1) if any(minors(rows, size, count)))


class SystemTest(unittest.TestCase):
    def solves(self, rows, count, right):
        system = System(rows, count)
        found = system.solve(right)
        with self.subTest(rows=rows, right=right):
            self.assertIs(type(found), list)
            self.assertEqual([type(number) for number in found], [int] * count)
            self.assertEqual([value(row, found) for row in rows], list(right))
            self.assertIsNone(system.paper(right))
        return found

    def has_none(self, rows, count, right):
        system = System(rows, count)
        weights = system.paper(right)
        with self.subTest(rows=rows, right=right):
            self.assertIsNone(system.solve(right))
            self.assertIs(type(weights), list)
            self.assertEqual(len(weights), len(rows))
            for weight in weights:
                self.assertIs(type(weight), tuple)
                self.assertEqual([type(part) for part in weight], [int, int])
                self.assertGreater(weight[1], 0)
            self.assertTrue(shows(rows, right, weights))
            self.assertIs(shows_none(rows, right, weights), True)

    def spans(self, rows, count):
        """The kernel is as large as it must be, and no list for which all rows give 0 is left out of it."""
        kernel = System(rows, count).kernel()
        with self.subTest(rows=rows, count=count, kernel=kernel):
            self.assertIs(type(kernel), list)
            for numbers in kernel:
                self.assertIs(type(numbers), list)
                self.assertEqual([type(number) for number in numbers], [int] * count)
                self.assertEqual([value(row, numbers) for row in rows], [0] * len(rows))
            self.assertEqual(len(kernel), count - rank(rows, count))
            # This tells whether the lists are independent and all whole lists between them are sums of multiples.
            self.assertEqual(math.gcd(*minors(kernel, len(kernel), count)), 1)
        return kernel


class SolveTest(SystemTest):
    def test_all_is_defined_here(self):
        self.assertEqual(System.__module__, "alnage.linear")
        self.assertEqual(shows_none.__module__, "alnage.linear")
        for name in ("__init__", "solve", "kernel", "paper"):
            self.assertIn(name, vars(System))
        self.assertEqual(linear.System.__bases__, (object,))

    def test_one_row(self):
        self.assertEqual(self.solves([[1]], 1, [5]), [5])
        self.assertEqual(self.solves([[-3]], 1, [12]), [-4])
        self.assertEqual(self.solves([[2]], 1, [0]), [0])
        self.solves([[6, 10, 15]], 3, [1])
        self.solves([[0, -4, 6]], 3, [2])

    def test_several_rows(self):
        self.assertEqual(self.solves([[1, 1], [1, -1]], 2, [10, 4]), [7, 3])
        self.assertEqual(self.solves([[0, 2], [3, 0]], 2, [4, -9]), [-3, 2])
        self.solves([[1, 2, 3], [4, 5, 6]], 3, [6, 15])

    def test_a_later_row_decides(self):
        self.assertEqual(self.solves([[1, 1, 1], [0, 1, 2], [0, 0, 1]], 3, [0, 0, 1]), [1, -2, 1])
        self.has_none([[1, 1, 1], [0, 1, 2], [0, 0, 2]], 3, [0, 0, 1])

    def test_no_rows(self):
        self.assertEqual(len(self.solves([], 3, [])), 3)
        self.assertEqual(self.solves([], 0, []), [])

    def test_no_columns(self):
        self.assertEqual(self.solves([[], []], 0, [0, 0]), [])
        self.has_none([[], []], 0, [0, 1])
        self.has_none([[], []], 0, [-6, 0])
        self.assertEqual(System([[], []], 0).kernel(), [])

    def test_rows_of_zeros(self):
        self.solves([[0, 0], [1, 2], [0, 0]], 2, [0, 3, 0])
        self.has_none([[0, 0], [1, 2], [0, 0]], 2, [0, 3, 1])
        self.has_none([[0, 0]], 2, [-7])

    def test_rows_that_are_sums_of_others(self):
        rows = [[1, 2, 3], [2, 0, 1], [3, 2, 4], [5, 2, 5]]
        self.solves(rows, 3, [6, 3, 9, 12])
        self.has_none(rows, 3, [6, 3, 10, 12])
        self.has_none(rows, 3, [6, 3, 9, 13])
        self.solves([[1, 1], [1, 1], [2, 2]], 2, [3, 3, 6])
        self.has_none([[1, 1], [1, 1], [2, 2]], 2, [3, 3, 7])

    def test_fractions_would_do_but_whole_numbers_do_not(self):
        self.has_none([[2]], 1, [1])
        self.has_none([[-2]], 1, [3])
        self.has_none([[2, 4]], 2, [3])
        self.has_none([[6, 10, 14]], 3, [1])
        self.has_none([[1, 1], [1, -1]], 2, [1, 0])
        self.has_none([[1, 2, 0], [0, 3, 6]], 3, [5, 1])
        self.has_none([[3, 0], [0, 5], [1, 1]], 2, [3, 5, 3])

    def test_fractions_would_not_do(self):
        self.has_none([[1], [1]], 1, [0, 1])
        self.has_none([[2], [3]], 1, [2, 4])
        self.has_none([[1, 2], [2, 4]], 2, [1, 1])
        self.has_none([[1, 2], [2, 4]], 2, [1, 100])

    def test_great_coefficients(self):
        great = 10 ** 40
        self.solves([[great, great + 1]], 2, [1])
        self.solves([[2 ** 200, 3 ** 120]], 2, [-1])
        self.has_none([[great, great + 2]], 2, [1])
        self.has_none([[7 * great, 49 * great]], 2, [7])
        self.assertEqual(self.solves([[great]], 1, [great ** 3]), [great ** 2])

    def test_a_system_is_used_again(self):
        system = System([[2, 0], [0, 3]], 2)
        self.assertEqual(system.solve([2, 3]), [1, 1])
        self.assertIsNone(system.solve([1, 3]))
        self.assertIsNotNone(system.paper([2, 2]))
        self.assertEqual(system.solve([4, -3]), [2, -1])
        self.assertEqual(system.kernel(), [])
        self.assertEqual(system.solve([2, 3]), [1, 1])

    def test_arguments_are_left_alone(self):
        rows, right = [[2, 4], [3, 5]], [1, 2]
        before = copy.deepcopy((rows, right))
        system = System(rows, 2)
        system.solve(right)
        system.paper(right)
        for numbers in system.kernel():
            numbers.append(1)
        shows_none(rows, right, [(1, 2), (1, 2)])
        self.assertEqual((rows, right), before)
        rows[0][0] = 9
        self.assertEqual(system.solve([2, 3]), [1, 0])

    def test_many_systems(self):
        source = random.Random(1)
        for _ in range(600):
            height, count, bound = source.randint(0, 5), source.randint(0, 5), source.choice((1, 2, 9, 10 ** 12))
            rows = [[source.randint(-bound, bound) for place in range(count)] for row in range(height)]
            if height > 2 and source.random() < 0.5:
                rows[-1] = [2 * one - two for one, two in zip(rows[0], rows[1])]
            if source.random() < 0.5:
                right = [source.randint(-bound, bound) for row in rows]
            else:
                numbers = [source.randint(-bound, bound) for place in range(count)]
                right = [value(row, numbers) for row in rows]
                self.assertIsNotNone(System(rows, count).solve(right))
            if System(rows, count).solve(right) is None:
                self.has_none(rows, count, right)
            else:
                self.solves(rows, count, right)

    def test_a_greater_system(self):
        source = random.Random(2)
        rows = [[source.randint(-10 ** 9, 10 ** 9) for place in range(20)] for row in range(18)]
        numbers = [source.randint(-10 ** 9, 10 ** 9) for place in range(20)]
        right = [value(row, numbers) for row in rows]
        self.solves(rows, 20, right)
        self.assertEqual([len(System(rows, 20).kernel()), rank_of_many(System(rows, 20).kernel())], [2, 2])
        doubled = [[2 * number for number in row] for row in rows]
        self.has_none(doubled, 20, right[:-1] + [right[-1] * 2 + 1])

    def test_many_unknowns(self):
        count = 1500
        rows = [[0] * place + [1, -1] + [0] * (count - place - 2) for place in range(count - 1)]
        system = System(rows, count)
        self.assertEqual([abs(number) for number in system.kernel()[0]], [1] * count)
        self.assertEqual(len(system.kernel()), 1)
        found = system.solve([1] * (count - 1))
        self.assertEqual(found[0] - found[-1], count - 1)


def rank_of_many(rows):
    rows = [[library.Fraction(number) for number in row] for row in rows]
    found = 0
    for place in range(len(rows[0])):
        lead = next((row for row in rows[found:] if row[place]), None)
        if lead is not None:
            rows.remove(lead)
            rows = [[one - two * row[place] / lead[place] for one, two in zip(row, lead)] for row in rows]
            rows.insert(found, lead)
            found += 1
    return found


class KernelTest(SystemTest):
    def test_only_zeros(self):
        self.assertEqual(self.spans([[1, 0], [0, 1]], 2), [])
        self.assertEqual(self.spans([[2, 3], [5, 7]], 2), [])
        self.assertEqual(self.spans([[-5]], 1), [])
        self.assertEqual(self.spans([], 0), [])

    def test_all_lists(self):
        for rows in ([], [[0, 0, 0]], [[0, 0, 0], [0, 0, 0]]):
            self.assertEqual(len(self.spans(rows, 3)), 3)

    def test_each_list_in_just_one_way(self):
        # The multiples of (4, -2) give 0, too, but not each list that does is one of them.
        self.assertIn(self.spans([[2, 4]], 2), ([[2, -1]], [[-2, 1]]))
        self.assertIn(self.spans([[10 ** 30, 10 ** 30]], 2), ([[1, -1]], [[-1, 1]]))
        self.spans([[6, 10, 15]], 3)
        self.spans([[2, 3, 5], [4, 9, 25]], 3)
        self.spans([[2, 0, 4], [0, 3, 9]], 3)
        self.spans([[12, 18, 30, 42]], 4)

    def test_rows_that_are_sums_of_others(self):
        self.spans([[1, 2, 3], [2, 0, 1], [3, 2, 4], [5, 2, 5]], 3)
        self.spans([[2, 4, 6], [3, 6, 9]], 3)
        self.spans([[0, 0, 0], [2, 4, 7], [0, 0, 0]], 3)

    def test_great_coefficients(self):
        self.spans([[10 ** 40, 10 ** 41 + 7, 3 ** 90]], 3)
        self.spans([[2 ** 100, 3 ** 60, 5 ** 40, 7 ** 30], [11 ** 20, 13 ** 21, 17 ** 22, 19 ** 23]], 4)

    def test_many_systems(self):
        source = random.Random(3)
        for _ in range(300):
            height, count, bound = source.randint(0, 4), source.randint(0, 5), source.choice((1, 3, 20, 10 ** 12))
            rows = [[source.randint(-bound, bound) for place in range(count)] for row in range(height)]
            if height > 2 and source.random() < 0.5:
                rows[2] = [one + 3 * two for one, two in zip(rows[0], rows[1])]
            self.spans(rows, count)


class ShowsNoneTest(unittest.TestCase):
    def test_whole_rows_and_a_right_side_that_is_not(self):
        self.assertIs(shows_none([[2]], [1], [(1, 2)]), True)
        self.assertIs(shows_none([[2, 4], [3, 6]], [1, 0], [(1, 2), (0, 1)]), True)
        self.assertIs(shows_none([[1], [1]], [0, 1], [(1, 2), (-1, 2)]), True)
        self.assertIs(shows_none([[1, 1], [1, -1]], [1, 0], [(1, 2), (1, 2)]), True)
        self.assertIs(shows_none([[]], [1], [(1, 7)]), True)

    def test_rows_that_are_not_whole(self):
        self.assertIs(shows_none([[2]], [1], [(1, 3)]), False)
        self.assertIs(shows_none([[2, 3]], [1], [(1, 2)]), False)
        self.assertIs(shows_none([[3, 2]], [1], [(1, 2)]), False)
        self.assertIs(shows_none([[1], [1]], [0, 1], [(1, 2), (-1, 3)]), False)

    def test_a_whole_right_side(self):
        self.assertIs(shows_none([[2]], [2], [(1, 2)]), False)
        self.assertIs(shows_none([[2]], [1], [(1, 1)]), False)
        self.assertIs(shows_none([[2]], [1], [(0, 1)]), False)
        self.assertIs(shows_none([[2], [2]], [1, 1], [(1, 2), (1, 2)]), False)
        self.assertIs(shows_none([[]], [3], [(1, 3)]), False)

    def test_neither(self):
        self.assertIs(shows_none([[3]], [2], [(1, 2)]), False)

    def test_no_rows(self):
        self.assertIs(shows_none([], [], []), False)

    def test_weights_of_another_length(self):
        self.assertIs(shows_none([[2]], [1], []), False)
        self.assertIs(shows_none([[2]], [1], [(1, 2), (0, 1)]), False)
        self.assertIs(shows_none([[2], [0]], [1, 0], [(1, 2)]), False)
        self.assertIs(shows_none([], [], [(1, 2)]), False)

    def test_weights_not_in_lowest_terms(self):
        self.assertIs(shows_none([[2]], [1], [(3, 6)]), True)
        self.assertIs(shows_none([[2]], [1], [(-50, 100)]), True)
        self.assertIs(shows_none([[2]], [1], [(4, 4)]), False)
        self.assertIs(shows_none([[2]], [2], [(2, 4)]), False)
        self.assertIs(shows_none([[2], [5]], [1, 1], [(2, 4), (0, 9)]), True)
        self.assertIs(shows_none([[1], [1]], [0, 1], [(2, 4), (3, 6)]), True)

    def test_great_weights(self):
        great = 10 ** 40
        self.assertIs(shows_none([[great]], [1], [(1, great)]), True)
        self.assertIs(shows_none([[great]], [1], [(1, great + 1)]), False)
        self.assertIs(shows_none([[great]], [great], [(1, great)]), False)
        self.assertIs(shows_none([[2]], [1], [(great + 1, 2)]), True)

    def test_negative_weights(self):
        self.assertIs(shows_none([[2]], [-1], [(-1, 2)]), True)
        self.assertIs(shows_none([[-2]], [2], [(-1, 2)]), False)

    def test_many_weights(self):
        source = random.Random(4)
        for _ in range(2000):
            height, count = source.randint(0, 3), source.randint(0, 3)
            rows = [[source.randint(-4, 4) for place in range(count)] for row in range(height)]
            right = [source.randint(-4, 4) for row in rows]
            weights = [(source.randint(-4, 4), source.choice((1, 2, 2, 3, 4))) for row in rows]
            with self.subTest(rows=rows, right=right, weights=weights):
                self.assertIs(shows_none(rows, right, weights), shows(rows, right, weights))


if __name__ == "__main__":
    unittest.main()

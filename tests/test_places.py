"""Promises 32 to 34: place rows and places."""

import random
import unittest

from support import ODD, Case, all_directions, are_place_rows, ask, dot, is_int, plane_normals, some_rows, some_vector
from support import damaged

from wirebeats.errors import BadDirection, NoPlace, NoPoint, Unlike
from wirebeats.places import canonical_rows, change_of, first_at, place_of, rows_certificate, rows_certificate_holds

FAR = 10 ** 30 - 1
WRONG_DIRECTIONS = ((0, 0), (2, 4), (5, 1), (1,), (1, 0, 0, 0), [1, 0], (True, 0), (0, 0, 0), (2, 0, 4), (1, 1, False))
UNITS = {1: ((1,),), 2: ((1, 0), (0, 1))}


def made(matrix, vector):
    return tuple(dot(row, vector) for row in matrix)


def added(counts, rows):
    return tuple(sum(many * row[at] for many, row in zip(counts, rows)) for at in range(len(rows[0])))


def times(rows, number):
    return tuple(tuple(number * item for item in row) for row in rows)


def first_item(row):
    return next(at for at, item in enumerate(row) if item != 0)


def every_direction():
    return all_directions(2) + all_directions(3)


def right_lift(matrix, vectors):
    width = len(matrix)
    if type(vectors) is not tuple or len(vectors) != width:
        return False
    for vector in vectors:
        if type(vector) is not tuple or len(vector) != width + 1 or not all(is_int(item) for item in vector):
            return False
    return tuple(made(matrix, vector) for vector in vectors) == UNITS[width]


def right_counts(matrix, counts, number):
    if type(counts) is not tuple or len(counts) != len(matrix) or not all(is_int(item) for item in counts):
        return False
    if not is_int(number) or not (number == 0 or number >= 2):
        return False
    total = added(counts, matrix)
    if number == 0:
        return any(counts) and not any(total)
    return any(item % number for item in counts) and not any(item % number for item in total)


def right_evidence(direction, matrix, value):
    """Whether value is right evidence, straight from the words of the document."""
    if type(value) is not tuple or len(value) not in (2, 3) or type(value[0]) is not str:
        return False
    if len(value) == 3:
        return value[0] == "missed" and right_counts(matrix, *value[1:])
    moved = [at for at, row in enumerate(matrix) if dot(row, direction) != 0]
    if value[0] == "moved":
        return is_int(value[1]) and value[1] in moved
    return value[0] == "lift" and not moved and right_lift(matrix, value[1])


def some_matrices(rng, direction, many):
    """Place rows, rows that the direction moves, and rows that miss places, mixed."""
    canonical = canonical_rows(direction)
    width = len(canonical)
    for _ in range(many):
        rows = some_rows(rng, canonical)
        kind = rng.randrange(5)
        if kind == 1:
            rows = times(rows, rng.choice((2, 3, 6, -4, 1000, 0)))
        if kind == 2:
            counts = [some_vector(rng, width, 3) for _ in range(width)]
            rows = tuple(added(row, canonical) for row in counts)
        if kind == 3:
            at = rng.randrange(width)
            rows = rows[:at] + (some_vector(rng, width + 1, 3),) + rows[at + 1:]
        if kind == 4:
            rows = tuple(some_vector(rng, width + 1, 2) for _ in range(width))
        yield rows


class Canonical(Case):
    def test_definition(self):
        for direction in every_direction():
            rows = ask(canonical_rows, direction)
            self.assertTrue(are_place_rows(direction, rows), direction)
            self.assertTrue(all(row[first_item(row)] > 0 for row in rows))
            self.assertTrue(all(type(row) is tuple and len(row) == len(direction) for row in rows))
            if len(rows) == 2:
                at = first_item(rows[1])
                self.assertGreater(at, first_item(rows[0]))
                self.assertIn(rows[0][at], range(rows[1][at]))

    def test_opposites(self):
        for direction in every_direction():
            self.same(ask(canonical_rows, tuple(-item for item in direction)), canonical_rows(direction))

    def test_values(self):
        expected = {(1, 0): ((0, 1),), (0, -1): ((1, 0),), (-4, 3): ((3, 4),), (1, 0, 0): ((0, 1, 0), (0, 0, 1)),
                    (0, 0, 1): ((1, 0, 0), (0, 1, 0)), (0, -1, 0): ((1, 0, 0), (0, 0, 1)),
                    (1, 2, 4): ((2, 1, -1), (0, 2, -1))}
        for direction, rows in expected.items():
            self.same(ask(canonical_rows, direction), rows)

    def test_bad_directions(self):
        for value in ODD + WRONG_DIRECTIONS:
            if value not in every_direction() or not all(is_int(item) for item in value):
                self.raises(BadDirection, {"direction": value}, canonical_rows, value)


class Certificates(Case):
    def test_they_are_right(self):
        rng = random.Random(21)
        seen = {"lift": 0, "moved": 0, "missed": 0}
        for direction in every_direction():
            for matrix in some_matrices(rng, direction, 4):
                value = ask(rows_certificate, direction, matrix)
                seen[value[0]] += 1
                self.assertTrue(right_evidence(direction, matrix, value), (direction, matrix, value))
                self.assertIs(ask(rows_certificate_holds, direction, matrix, value), True)
                moved = [at for at, row in enumerate(matrix) if dot(row, direction) != 0]
                self.assertEqual(value[0] == "moved", bool(moved))
                if moved:
                    self.same(value, ("moved", moved[0]))
                self.assertEqual(value[0] == "lift", are_place_rows(direction, matrix))
        self.assertGreater(min(seen.values()), 300)

    def test_great_items(self):
        most = 10 ** 6
        self.assertEqual(ask(rows_certificate, (1, 1), ((most, -most),)), ("missed", (1,), most))
        for rows in (((1, 0, -1), (most, 1, -most - 1)), ((most, 1 - most, -1), (1, -1, 0)),
                     ((999983, 1, -999984), (999979, 1, -999980)), ((999983, 17, -10 ** 6), (0, 0, 0)),
                     ((0, 0, 0), (1, -1, 0)), ((0, 0, 0), (0, 0, 0)), ((1, -1, 0), (-3, 3, 0)), ((2, -2, 0), (0, 3, -3))):
            value = ask(rows_certificate, (1, 1, 1), rows)
            self.assertTrue(right_evidence((1, 1, 1), rows, value), value)
            self.assertIs(ask(rows_certificate_holds, (1, 1, 1), rows, value), True)
            self.assertEqual(value[0] == "lift", are_place_rows((1, 1, 1), rows))

    def test_lifts(self):
        rng = random.Random(22)
        for direction in every_direction():
            matrix = some_rows(rng, canonical_rows(direction))
            lift = rows_certificate(direction, matrix)[1]
            for many in (1, -3, 10 ** 30):
                moved = tuple(tuple(a + many * b for a, b in zip(vector, direction)) for vector in lift)
                self.assertIs(ask(rows_certificate_holds, direction, matrix, ("lift", moved)), True)
            for at in range(len(direction)):
                changed = ((lift[0][:at] + (lift[0][at] + 1,) + lift[0][at + 1:]),) + lift[1:]
                holds = right_lift(matrix, changed)
                self.assertIs(ask(rows_certificate_holds, direction, matrix, ("lift", changed)), holds)

    def test_moved_holds_for_any_moved_row(self):
        matrix = ((1, -1, 0), (1, 0, 0))
        for value, holds in ((("moved", 1), True), (("moved", 0), False), (("moved", 2), False), (("moved", -1), False),
                             (("moved", True), False), (("moved", "1"), False), (("moved", None), False)):
            self.assertIs(ask(rows_certificate_holds, (1, 1, 1), matrix, value), holds)
        both = ((1, 0, 0), (0, 1, 0))
        for value, holds in ((("moved", 1), True), (("moved", 0), True), (("moved", False), False)):
            self.assertIs(ask(rows_certificate_holds, (1, 1, 1), both, value), holds)
        lift = ((1, 0, 0), (0, 1, 0))
        self.assertIs(ask(rows_certificate_holds, (1, 1, 1), both, ("lift", lift)), False)
        self.assertIs(ask(rows_certificate_holds, (0, 0, 1), both, ("lift", lift)), True)

    def test_missed_holds_for_any_counts(self):
        holds = rows_certificate_holds
        matrix = ((2, 0, -2), (0, 1, -1))
        for counts, number, right in (((1, 0), 2, True), ((1, 2), 2, True), ((-1, 10 ** 39), 2, True), ((2, 2), 2, False),
                                      ((1, 1), 2, False), ((1, 0), 1, False), ((1, 0), 0, False), ((1, 0), -2, False),
                                      ((3, 6), 6, True), ((2, 4), 4, True), ((1, 0), 4, False), ((1,), 2, False),
                                      ((1, 0, 0), 2, False), ([1, 0], 2, False), ((True, 0), 2, False),
                                      ((1, False), 2, False), ((1, 0), True, False), ((1, 0), "2", False),
                                      ((1, 0), None, False), (None, 2, False), ((10 ** 39, 10 ** 39), 10 ** 39, False),
                                      ((5 * 10 ** 38, 0), 10 ** 39, True)):
            self.assertIs(ask(holds, (1, 1, 1), matrix, ("missed", counts, number)), right, (counts, number))
        # The products with the direction make no difference here.
        self.assertIs(ask(holds, (1, 1, 1), ((2, 0, 0), (0, 1, 0)), ("missed", (1, 0), 2)), True)
        flat = ((1, -1, 0), (-2, 2, 0))
        for counts, right in (((2, 1), True), ((-4, -2), True), ((0, 0), False), ((1, 1), False), ((True, 1), False)):
            self.assertIs(ask(holds, (1, 1, 1), flat, ("missed", counts, 0)), right)
        self.assertIs(ask(holds, (1, 1), ((0, 0),), ("missed", (1,), 0)), True)
        self.assertIs(ask(holds, (1, 1), ((0, 0),), ("missed", (1,), 7)), True)
        self.assertIs(ask(holds, (1, 1), ((3, -3),), ("missed", (2,), 3)), True)

    def test_damaged_evidence(self):
        rng = random.Random(23)
        right = 0
        for direction in every_direction()[::5]:
            for matrix in some_matrices(rng, direction, 4):
                value = rows_certificate(direction, matrix)
                for other in damaged(rng, value, 12):
                    expected = right_evidence(direction, matrix, other)
                    right += expected
                    self.assertIs(ask(rows_certificate_holds, direction, matrix, other), expected, (matrix, other))
        self.assertGreater(right, 50)

    def test_odd_values(self):
        for value in ODD + (("lift",), ("lift", ((1, 0),), 0), ["lift", ((1, 0),)], ("moved",), ("missed", (1,)), ("", 0),
                            ("lift", [(1, 0)]), ("lift", ([1, 0],)), ("lift", ((True, 0),)), ("lift", ((1, 0, 0),)),
                            ("lift", ((1,),)), ("lift", ()), ("lift", None), (None, ((1, 0),)), (["lift"], ((1, 0),))):
            self.assertIs(ask(rows_certificate_holds, (1, 1), ((1, -1),), value), False, value)
        self.assertIs(ask(rows_certificate_holds, (1, 1), ((1, -1),), ("lift", ((1, 0),))), True)

    def test_bad_directions(self):
        for value in ODD + WRONG_DIRECTIONS:
            if not (value in every_direction() and all(is_int(item) for item in value)):
                for matrix in (((1, -1),), ((1, 0, -1), (0, 1, -1))):
                    self.raises(BadDirection, {"direction": value}, rows_certificate, value, matrix)
                    self.raises(BadDirection, {"direction": value}, rows_certificate_holds, value, matrix, None)
        # It is raised first, whatever rows or a matrix are.
        value = (2, 4)
        for matrix in ODD:
            self.raises(BadDirection, {"direction": value}, rows_certificate, value, matrix)
            self.raises(BadDirection, {"direction": value}, rows_certificate_holds, value, matrix, None)
            self.raises(BadDirection, {"direction": value}, first_at, (3, 2), value, matrix, None)
        for direction, matrix in (((1, 1, 1), ((1, -1),)), ((1, 1), ((1, 0, -1), (0, 1, -1)))):
            self.raises(BadDirection, {"direction": direction}, rows_certificate, direction, matrix)
            self.raises(BadDirection, {"direction": direction}, rows_certificate_holds, direction, matrix, ("moved", 0))


class Places(Case):
    def test_place_of(self):
        rng = random.Random(24)
        for direction in every_direction():
            rows = some_rows(rng, canonical_rows(direction))
            point = some_vector(rng, len(direction), rng.choice((5, 10 ** 9, FAR)))
            self.same(ask(place_of, rows, point), made(rows, point))
        self.same(ask(place_of, ((10 ** 6, -10 ** 6 + 1),), (FAR, -FAR)), ((2 * 10 ** 6 - 1) * FAR,))

    def test_no_points(self):
        for rows in (((1, -1),), ((1, 0, -1), (0, 1, -1))):
            dims = len(rows) + 1
            zeros = (0,) * dims
            wrong = [value for value in ODD if not (type(value) is tuple and len(value) == dims and all(map(is_int, value)))]
            wrong += [list(zeros), zeros[1:], zeros + (0,), (False,) + zeros[1:], (FAR + 1,) + zeros[1:]]
            for value in wrong + [(-FAR - 1,) + zeros[1:]]:
                self.raises(NoPoint, {"point": value}, place_of, rows, value)

    def test_first_in_small_boxes(self):
        rng = random.Random(25)
        for direction in every_direction():
            dims = len(direction)
            rows = some_rows(rng, canonical_rows(direction), 2)
            box = tuple(rng.randint(1, 5) for _ in range(dims))
            points = [()]
            for size in box:
                points = [point + (item,) for point in points for item in range(size)]
            first = {}
            for point in points:
                before = tuple(item - move for item, move in zip(point, direction))
                if before not in points:
                    first[made(rows, point)] = point
            for place, point in first.items():
                self.same(ask(first_at, box, direction, rows, place), point)
            for _ in range(4):
                place = some_vector(rng, dims - 1, 12)
                self.same(ask(first_at, box, direction, rows, place), first.get(place))

    def test_first_in_great_boxes(self):
        rng = random.Random(26)
        for direction in every_direction():
            rows = some_rows(rng, canonical_rows(direction))
            box = tuple(rng.choice((10 ** 9, rng.randint(1, 10 ** 9), rng.randint(1, 9))) for _ in direction)
            inside = tuple(rng.randrange(size) for size in box)
            point = ask(first_at, box, direction, rows, made(rows, inside))
            self.same(made(rows, point), made(rows, inside))
            self.assertTrue(all(0 <= item < size for item, size in zip(point, box)))
            before = tuple(item - move for item, move in zip(point, direction))
            self.assertFalse(all(0 <= item < size for item, size in zip(before, box)))

    def test_first_at_corners(self):
        great = 10 ** 9
        for place, expected in ((great - 1, (great - 1, 0)), (great, None), (1 - great, (0, great - 1)), (-great, None),
                                (0, (0, 0)), (FAR, None), (-FAR, None)):
            self.same(ask(first_at, (great, great), (1, 1), ((1, -1),), (place,)), expected)
        self.same(ask(first_at, (great, great), (-1, -1), ((1, -1),), (1,)), (great - 1, great - 2))
        self.same(ask(first_at, (great, 3), (1, 0), ((0, 1),), (2,)), (0, 2))
        self.same(ask(first_at, (great, 3), (1, 0), ((0, 1),), (3,)), None)
        self.same(ask(first_at, (great, 3), (1, 0), ((0, 1),), (-1,)), None)
        # A line may pass a box between two of its points.
        self.same(ask(first_at, (2, 2), (4, 1), ((1, -4),), (2,)), None)

    def test_first_at_errors(self):
        box, direction, rows = (3, 2), (1, 1), ((1, -1),)
        wrong = [value for value in ODD if not (type(value) is tuple and len(value) == 1 and is_int(value[0]))]
        for place in wrong + [[0], (True,), (0, 0), (FAR + 1,), (-FAR - 1,), ((0,),)]:
            self.raises(NoPlace, {"place": place}, first_at, box, direction, rows, place)
            value = (2, 2)
            self.raises(BadDirection, {"direction": value}, first_at, box, value, rows, place)
        for value in ODD + WRONG_DIRECTIONS + ((1, 0, 0),):
            if not (value in all_directions(2) and all(is_int(item) for item in value)):
                self.raises(BadDirection, {"direction": value}, first_at, box, value, rows, (0,))
        flat = (1, 1)
        deep = (1, 1, 1)
        self.raises(BadDirection, {"direction": flat}, first_at, (3, 2, 2), flat, rows, None)
        self.raises(BadDirection, {"direction": deep}, first_at, (3, 2, 2), deep, rows, None)
        for place in ((0,), (0, False), [0, 0], (0, FAR + 1)):
            self.raises(NoPlace, {"place": place}, first_at, (3, 2, 2), deep, ((1, 0, -1), (0, 1, -1)), place)


class Changes(Case):
    def test_changes(self):
        rng = random.Random(27)
        for direction in every_direction():
            rows = some_rows(rng, canonical_rows(direction))
            other = some_rows(rng, rows)
            change = ask(change_of, rows, other)
            self.same(tuple(added(counts, rows) for counts in change), other)
            self.same(ask(change_of, rows, rows), UNITS[len(rows)])
            back = change_of(other, rows)
            self.same(tuple(added(counts, other) for counts in back), rows)

    def test_no_place_rows(self):
        rng = random.Random(28)
        unlike = 0
        for direction in every_direction():
            rows = some_rows(rng, canonical_rows(direction))
            for other in some_matrices(rng, direction, 4):
                if are_place_rows(direction, other):
                    self.same(tuple(added(counts, rows) for counts in change_of(rows, other)), other)
                else:
                    unlike += 1
                    self.raises(Unlike, {}, change_of, rows, other)
        self.assertGreater(unlike, 1000)

    def test_rows_of_another_direction(self):
        directions = all_directions(3)
        for at, direction in enumerate(directions):
            other = directions[(7 * at + 1) % len(directions)]
            if plane_normals(direction, other) != (0, 0, 0):
                self.raises(Unlike, {}, change_of, canonical_rows(direction), canonical_rows(other))
        self.raises(Unlike, {}, change_of, ((1, -1),), ((1, 1),))
        self.raises(Unlike, {}, change_of, ((1, -1),), ((2, -2),))
        self.raises(Unlike, {}, change_of, ((1, -1),), ((0, 0),))
        self.same(ask(change_of, ((1, -1),), ((-1, 1),)), ((-1,),))

    def test_no_matrices(self):
        for value in ODD + (((True, -1),), ([1, -1],), ((1, -1), (1, -1)), ((1, -1, 0),), ((1,),), [(1, -1)]):
            self.raises(Unlike, {}, change_of, ((1, -1),), value)

    def test_great_items(self):
        rows = ((1, 0, -1), (0, 1, -1))
        self.same(ask(change_of, rows, ((1, 0, -1), (999999, 1, -10 ** 6))), ((1, 0), (999999, 1)))
        self.raises(Unlike, {}, change_of, rows, ((1, 0, -1), (999999, 1, 10 ** 6)))


if __name__ == "__main__":
    unittest.main()

"""Promises 54 to 57: strips of blocks that are worked off one after another."""

import itertools
import random
import unittest

from support import ODD, Case, all_directions, ask, damaged, dot, is_int, served, some_flow, some_rows, some_vector, variants
from test_words import F, M, first_reason, inside, less, points, reckoned, some_outside

from wirebeats.errors import BadBlocks, BadOutside, NotYet, TooLarge
from wirebeats.flows import reads_of
from wirebeats.places import canonical_rows
from wirebeats.strips import blocks_of, find_order, find_plan, kept_words, moves_of, order_holds, plan_holds, strip_words
from wirebeats.words import words_of

G = (2, (("add", (0, (1, 1)), (0, (-1, 1))),))
BOXES = {2: ((1, 1), (2, 3), (4, 4), (7, 2), (1, 9), (6, 5)), 3: ((1, 1, 1), (2, 3, 2), (3, 1, 4), (2, 2, 5), (3, 3, 3))}


def all_moves(steps, sides):
    found = set()
    for step in steps:
        choices = [{item // side, -(-item // side)} for item, side in zip(step, sides)]
        found |= set(itertools.product(*choices))
    return tuple(sorted(move for move in found if any(move)))


def serves(steps, sides, value):
    """Whether value is a right order or ring."""
    if type(value) is not tuple or len(value) != 2 or type(value[1]) is not tuple or not all(is_int(item) for item in value[1]):
        return False
    moves, told = all_moves(steps, sides), value[1]
    if value[0] == "order":
        return len(told) == len(sides) and all(dot(told, move) >= 1 for move in moves)
    if value[0] != "ring" or len(told) != len(moves) or not any(told) or min(told) < 0:
        return False
    return all(sum(count * move[axis] for count, move in zip(told, moves)) == 0 for axis in range(len(sides)))


def turned(rng, steps):
    """The steps turned round, mirrored, and in another order."""
    if steps and len(steps[0]) == 2:
        matrix = rng.choice((((1, 0), (0, 1)), ((0, 1), (-1, 0)), ((-1, 0), (0, -1)), ((0, -1), (1, 0)), ((0, 1), (1, 0))))
        steps = [tuple(dot(row, step) for row in matrix) for step in steps]
    return tuple(rng.sample(list(steps), len(steps)))


def some_steps(rng, width, many, form):
    """Steps that go one way, both ways, along a line, in a half plane or in all directions."""
    most = rng.choice((1, 3, 20, 1000))
    if form == "all" or width == 1 and form != "one way":
        return tuple(some_vector(rng, width, most) for _ in range(many))
    if form == "one way":
        sign = rng.choice((1, -1))
        return tuple(tuple(sign * rng.randint(0, most) for _ in range(width)) for _ in range(many))
    if form == "line":
        along = some_vector(rng, width, 3)
        factors = [rng.randint(rng.choice((0, 1, -300)), 300) for _ in range(many)]
        return tuple(tuple(factor * item for item in along) for factor in factors)
    # Just at the edge of a half plane, or just beyond it.
    steps = [(rng.randint(0, most), rng.randint(-most, most)) for _ in range(many)]
    return turned(rng, steps)


def some_orders(seed, many):
    rng = random.Random(seed)
    for at in range(many):
        width = 1 + at % 2
        form = ("all", "one way", "line", "half", "half")[at // 2 % 5]
        steps = some_steps(rng, width, rng.choice((0, 1, 2, 3, 5, 18)), form)
        sides = tuple(rng.choice((1, 1, 2, 3, 7, 40, 720)) for _ in range(width))
        yield rng, steps, sides


class Moves(Case):
    def test_against_the_definition(self):
        for _, steps, sides in some_orders(301, 600):
            self.same(ask(moves_of, steps, sides), all_moves(steps, sides), steps, sides)

    def test_edges(self):
        self.same([moves_of(((1, -1), (0, 0)), (2, 2)), moves_of(((3, 1),), (2, 2))],
                  [((0, -1), (1, -1), (1, 0)), ((1, 0), (1, 1), (2, 0), (2, 1))])
        self.same([moves_of((), (3,)), moves_of((), (3, 4)), moves_of(((0,),), (3,)), moves_of(((0, 0), (0, 0)), (1, 720))], [(), (), (), ()])
        self.same(moves_of(((1000,), (-1000,)), (1,)), ((-1000,), (1000,)))
        self.same(moves_of(((1000,), (-1000,), (720,), (-720,)), (720,)), ((-2,), (-1,), (1,), (2,)))
        self.same(moves_of(((-1, 1000),), (720, 1)), ((-1, 1000), (0, 1000)))
        steps = tuple((1000 - k, k - 1000) for k in range(18))
        self.same((len(moves_of(steps, (3, 7))), moves_of(steps, (3, 7))), (len(all_moves(steps, (3, 7))), all_moves(steps, (3, 7))))


class Orders(Case):
    def test_numbers_or_counts(self):
        words = {}
        for _, steps, sides in some_orders(302, 2500):
            found = ask(find_order, steps, sides)
            self.assertTrue(serves(steps, sides, found), (steps, sides, found))
            self.assertIs(ask(order_holds, steps, sides, found), True)
            words.setdefault(len(sides), []).append(found[0])
        for width in (1, 2):
            self.assertGreater(min(words[width].count("order"), words[width].count("ring")), 300, width)

    def test_all_small_steps(self):
        vectors = [step for step in itertools.product((-1, 0, 1), repeat=2)]
        for many in (1, 2, 3):
            for steps in itertools.combinations(vectors, many):
                for sides in ((1, 1), (2, 1), (2, 2)):
                    found = find_order(steps, sides)
                    self.assertTrue(serves(steps, sides, found), (steps, sides, found))

    def test_chosen_ones(self):
        for steps, sides, word in ((((4,), (0,)), (3,), "order"), (((1,), (-2,)), (3,), "ring"), ((), (3,), "order"), ((), (3, 3), "order"),
                                   (((0, 0),), (3, 3), "order"), (((1, 0), (-1, 1)), (1, 1), "order"), (((1, 0), (-1, 0)), (1, 1), "ring"),
                                   (((1, 0), (-1, 1), (-1, -1)), (1, 1), "ring"), (((1, 0), (0, 1), (-1, 1)), (1, 1), "order"),
                                   (((1, 0), (0, 1), (-1, 1), (0, -1)), (1, 1), "ring"), (((1000, 999), (-999, -998)), (1, 1), "order"),
                                   (((1000, 999), (999, 998), (-999, -998)), (1, 1), "ring"), (((1000, 1), (-1000, 0)), (1, 1), "order"),
                                   (((1000, 1), (-1000, 0)), (2, 2), "ring"), (((2,), (3,), (5,)), (1,), "order"), (((-2,), (-3,)), (7,), "order"),
                                   (((2, 4), (-3, -6)), (1, 1), "ring"), (((2, 4), (3, 6)), (1, 1), "order")):
            found = find_order(steps, sides)
            self.assertEqual(found[0], word, (steps, sides))
            self.assertTrue(serves(steps, sides, found))

    def test_near_and_bent_answers(self):
        counts = {True: 0, False: 0}
        for rng, steps, sides in some_orders(303, 200):
            word, told = found = find_order(steps, sides)
            moves = all_moves(steps, sides)
            values = rng.sample(variants(found), min(30, len(variants(found)))) + damaged(rng, found, 4)
            values += [(word, tuple(factor * item for item in told)) for factor in (2, 0, -1, 10 ** 30)]
            values += [(word, tuple(item + (at == index) * more for at, item in enumerate(told))) for index in range(len(told)) for more in (1, -1)]
            values += [("order", (0,) * len(sides)), ("ring", (0,) * len(moves)), ("ring", (1,) * len(moves)), ("ring", ()), ("order", ()),
                       ("order", told), ("ring", told), [word, told], (word, list(told)), (word, tuple(bool(item) for item in told))]
            for move in moves:
                # Counts of a move and its opposite sum to nothing.
                back = tuple(-item for item in move)
                if back in moves:
                    values.append(("ring", tuple(int(other in (move, back)) for other in moves)))
            for value in values:
                right = serves(steps, sides, value)
                counts[right] += 1
                self.assertIs(ask(order_holds, steps, sides, value), right, (steps, sides, value))
        self.assertGreater(counts[True], 200)
        self.assertGreater(counts[False], 2500)

    def test_values_of_all_kinds(self):
        for steps, sides in ((((4,), (0,)), (3,)), (((1,), (-2,)), (3,)), ((), (3,)), (((1, 2), (-1, 3)), (2, 2)), ((), (2, 2))):
            for value in ODD + tuple((word, told) for word in ("order", "ring", "rank", 1) for told in ODD):
                self.assertIs(ask(order_holds, steps, sides, value), serves(steps, sides, value), (steps, sides, value))
        self.assertIs(order_holds((), (3,), ("order", (-5,))), True)
        self.assertIs(order_holds((), (3,), ("ring", ())), False)
        self.assertIs(order_holds(((1,),), (1,), ("order", (True,))), False)


def block_at(rows, sides, point):
    return tuple(dot(row, point) // side for row, side in zip(rows, sides))


def all_blocks(rows, sides, box):
    return tuple(sorted({block_at(rows, sides, point) for point in points(box)}))


def words_read(flow, box, plane, point):
    """The words of the box that a word reads."""
    told = [(source, less(point, distance)) for k, _, source, distance in reads_of(flow) if k == plane]
    return [(source, vector) for source, vector in told if inside(box, vector)]


def all_waits(flow, rows, sides, box):
    """All pairs (block, other): the first one waits for the other one."""
    pairs = set()
    for plane, point in itertools.product(range(len(flow[1])), points(box)):
        block = block_at(rows, sides, point)
        pairs |= {(block, block_at(rows, sides, other)) for _, other in words_read(flow, box, plane, point)}
    return {pair for pair in pairs if pair[0] != pair[1]}


def is_plan(flow, rows, sides, box, value):
    if type(value) is not tuple or len(value) != 2 or type(value[1]) is not tuple:
        return False
    told = value[1]
    if not all(type(block) is tuple and all(is_int(item) for item in block) for block in told):
        return False
    waits = all_waits(flow, rows, sides, box)
    if value[0] == "plan":
        return tuple(sorted(told)) == all_blocks(rows, sides, box) and all(told.index(other) < told.index(block) for block, other in waits)
    if value[0] != "ring" or len(told) < 2 or len(set(told)) != len(told):
        return False
    return all((told[at], told[at - 1]) in waits for at in range(len(told)))


def some_strips(seed, many, late=50):
    """Served flows, place rows of any direction, sides and small boxes."""
    rng = random.Random(seed)
    for at in range(many):
        dims = 2 + at % 2
        flow, beats = served(rng, dims, 1 + at % 4, late=late)
        rows = some_rows(rng, canonical_rows(rng.choice(all_directions(dims, 2))), rng.choice((0, 3)))
        sides = tuple(rng.choice((1, 1, 2, 3, 5, 720)) for _ in rows)
        yield rng, flow, beats, rows, sides, rng.choice(BOXES[dims])


class Plans(Case):
    def test_blocks(self):
        for _, _, _, rows, sides, box in some_strips(304, 250):
            self.same(ask(blocks_of, rows, sides, box), all_blocks(rows, sides, box), rows, sides, box)
        self.same(blocks_of(((10 ** 6, -10 ** 6 + 1),), (1,), (2, 2)), ((-999999,), (0,), (1,), (10 ** 6,)))

    def test_plans_and_rings(self):
        words = []
        for _, flow, _, rows, sides, box in some_strips(305, 400):
            found = ask(find_plan, flow, rows, sides, box)
            words.append(found[0])
            self.assertTrue(is_plan(flow, rows, sides, box, found), (flow, rows, sides, box, found))
            self.assertIs(ask(plan_holds, flow, rows, sides, box, found), True)
        self.assertGreater(min(words.count("plan"), words.count("ring")), 60)

    def test_flows_that_are_not_served(self):
        rng = random.Random(306)
        for at in range(120):
            dims = 2 + at % 2
            flow = some_flow(rng, dims, 1 + at % 3, 1)
            rows = canonical_rows(rng.choice(all_directions(dims, 1)))
            sides = tuple(rng.choice((1, 2, 3)) for _ in rows)
            box = rng.choice(BOXES[dims])
            found = ask(find_plan, flow, rows, sides, box)
            self.assertTrue(is_plan(flow, rows, sides, box, found))
            self.assertIs(plan_holds(flow, rows, sides, box, found), True)

    def test_bent_answers(self):
        counts = {True: 0, False: 0}
        for rng, flow, _, rows, sides, box in some_strips(307, 100):
            word, told = found = find_plan(flow, rows, sides, box)
            blocks = all_blocks(rows, sides, box)
            waits = sorted(all_waits(flow, rows, sides, box))
            values = rng.sample(variants(found), min(15, len(variants(found)))) + damaged(rng, found, 3)
            for some in (told, blocks):
                values += [(name, other) for name in ("plan", "ring") for other in self.others(rng, some, rows, sides)]
            values += [("ring", pair) for pair in rng.sample(waits, min(5, len(waits)))]
            for value in values:
                right = is_plan(flow, rows, sides, box, value)
                counts[right] += 1
                self.assertIs(ask(plan_holds, flow, rows, sides, box, value), right, (flow, rows, sides, box, value))
        self.assertGreater(counts[True], 150)
        self.assertGreater(counts[False], 2500)

    def others(self, rng, blocks, rows, sides):
        """The blocks left out, doubled, exchanged, turned round, shuffled, or those of another box."""
        one, other = sorted((rng.randrange(len(blocks)), rng.randrange(len(blocks))))
        exchanged = list(blocks)
        exchanged[one], exchanged[other] = exchanged[other], exchanged[one]
        doubled = blocks[:one] + (blocks[other],) + blocks[one + 1:]
        greater = all_blocks(rows, sides, BOXES[len(rows) + 1][-1])
        return [blocks, blocks[1:], blocks[:-1], blocks[:one] + blocks[one + 1:], blocks + blocks[one:one + 1], doubled, tuple(exchanged),
                blocks[::-1], blocks[1:] + blocks[:1], tuple(rng.sample(blocks, len(blocks))), greater, list(blocks),
                tuple(list(block) for block in blocks), tuple(block + (0,) for block in blocks), blocks[:1], (),
                blocks + (tuple(item + 10 ** 20 for item in blocks[0]),)]

    def test_values_of_all_kinds(self):
        for flow, rows, sides, box in ((F, ((1, 0),), (2,), (3, 2)), (G, ((1, 0),), (1,), (2, 2)), (F, ((1, 0),), (720,), (3, 2))):
            for value in ODD + tuple((word, told) for word in ("plan", "ring", 0) for told in ODD + (((0,),), ((0,), (True,)), ((0,), (1, 0)))):
                self.assertIs(ask(plan_holds, flow, rows, sides, box, value), is_plan(flow, rows, sides, box, value))
        self.assertIs(plan_holds(F, ((1, 0),), (720,), (3, 2), ("plan", ((0,),))), True)
        self.assertIs(plan_holds(F, ((1, 0),), (720,), (3, 2), ("plan", ((False,),))), False)
        self.assertIs(plan_holds(F, ((1, 0),), (720,), (3, 2), ("ring", ((0,),))), False)

    def test_boxes_that_are_too_large(self):
        for box in ((241, 1), (16, 16), (10 ** 9, 10 ** 9)):
            for function, args in ((blocks_of, ()), (find_plan, (F,)), (plan_holds, (F,))):
                more = (None,) if function is plan_holds else ()
                self.raises(TooLarge, {"limit": 240}, function, *args, ((1, 0),), (2,), box, *more)
        self.assertEqual(len(ask(blocks_of, ((1, 0),), (1,), (240, 1))), 240)
        self.same(ask(find_plan, F, ((1, 0),), (1,), (240, 1)), ("plan", tuple((at,) for at in range(240))))


def worked(flow, beats, rows, sides, box, outside, blocks):
    """The words in the order of the blocks, or the first word that reads what is not there yet."""
    told = {(plane, vector): word for plane, vector, word in outside}
    made = {}
    for block in blocks:
        own = [point for point in points(box) if block_at(rows, sides, point) == block]
        order = sorted((dot(beats[0], point) + beats[1][plane], plane, point) for plane in range(len(flow[1])) for point in own)
        for _, plane, point in order:
            if any(word not in made for word in words_read(flow, box, plane, point)):
                return None, (plane, point)
            kind, *reads = flow[1][plane]
            x = []
            for source, distance in reads:
                vector = less(point, distance)
                x.append(made[source, vector] if inside(box, vector) else told.get((source, vector), 0))
            word = {"copy": x[0], "neg": -x[0], "add": sum(x), "sub": x[0] - x[-1], "mul": x[0] * x[-1], "least": min(x), "most": max(x),
                    "madd": x[0] + x[-1] * x[len(x) // 2]}[kind]
            made[plane, point] = word % M
    return tuple(tuple(made[plane, point] for point in points(box)) for plane in range(len(flow[1]))), None


def kept(flow, rows, sides, box, blocks):
    at = {point: blocks.index(block_at(rows, sides, point)) for point in points(box)}
    readers = {}
    for plane, point in itertools.product(range(len(flow[1])), points(box)):
        for word in words_read(flow, box, plane, point):
            readers.setdefault(word, []).append(at[point])
    return tuple(sum(at[word[1]] <= index and max(later) > index for word, later in readers.items()) for index in range(len(blocks) - 1))


def some_blocks(rng, flow, rows, sides, box):
    """A plan, if there is one, the blocks ascending and descending, and others."""
    blocks = all_blocks(rows, sides, box)
    word, told = find_plan(flow, rows, sides, box)
    orders = [blocks, blocks[::-1], tuple(rng.sample(blocks, len(blocks)))]
    if word == "plan":
        exchanged = list(told)
        at = rng.randrange(len(told))
        exchanged[at], exchanged[at - 1] = exchanged[at - 1], exchanged[at]
        orders += [told, tuple(exchanged)]
    return orders


class Strips(Case):
    def test_words_or_the_first_that_is_too_early(self):
        counts = {True: 0, False: 0}
        for rng, flow, beats, rows, sides, box in some_strips(308, 160):
            outside = some_outside(rng, flow, box)
            for blocks in some_blocks(rng, flow, rows, sides, box):
                words, early = worked(flow, beats, rows, sides, box, outside, blocks)
                counts[early is None] += 1
                if early is None:
                    self.same(ask(strip_words, flow, beats, rows, sides, box, outside, blocks), words, flow, rows, sides, box, blocks)
                    self.same(words_of(flow, beats, box, outside), words)
                else:
                    self.raises(NotYet, {"plane": early[0], "point": early[1]}, strip_words, flow, beats, rows, sides, box, outside, blocks)
        self.assertGreater(min(counts.values()), 150)

    def test_each_order_of_few_blocks(self):
        rng = random.Random(309)
        done = 0
        for _, flow, beats, rows, sides, box in some_strips(310, 200, late=9):
            blocks = all_blocks(rows, sides, box)
            if 1 < len(blocks) < 5:
                outside = some_outside(rng, flow, box)
                for order in itertools.permutations(blocks):
                    done += 1
                    words, early = worked(flow, beats, rows, sides, box, outside, order)
                    self.same(ask(kept_words, flow, rows, sides, box, order), kept(flow, rows, sides, box, order))
                    self.assertIs(plan_holds(flow, rows, sides, box, ("plan", order)), early is None)
                    if early is None:
                        self.same(strip_words(flow, beats, rows, sides, box, outside, order), words)
                    else:
                        self.raises(NotYet, {"plane": early[0], "point": early[1]}, strip_words, flow, beats, rows, sides, box, outside, order)
        self.assertGreater(done, 150)

    def test_kept_words(self):
        for rng, flow, _, rows, sides, box in some_strips(311, 160):
            for blocks in some_blocks(rng, flow, rows, sides, box):
                self.same(ask(kept_words, flow, rows, sides, box, blocks), kept(flow, rows, sides, box, blocks), flow, rows, sides, box, blocks)

    def test_blocks_that_are_not_all(self):
        counts = {True: 0, False: 0}
        for rng, flow, beats, rows, sides, box in some_strips(312, 60):
            blocks = all_blocks(rows, sides, box)
            values = Plans().others(rng, blocks, rows, sides) + damaged(rng, blocks, 4)
            for value in values:
                right = type(value) is tuple and all(type(block) is tuple and all(is_int(item) for item in block) for block in value)
                right = right and tuple(sorted(value)) == blocks
                counts[right] += 1
                if right:
                    self.same(ask(kept_words, flow, rows, sides, box, value), kept(flow, rows, sides, box, value))
                else:
                    self.raises(BadBlocks, {"blocks": value}, kept_words, flow, rows, sides, box, value)
                    self.raises(BadBlocks, {"blocks": value}, strip_words, flow, beats, rows, sides, box, (), value)
        self.assertGreater(min(counts.values()), 150)

    def test_errors_in_their_order(self):
        beats, rows, sides = ((1, 1), (0,)), ((1, 0),), (2,)
        wrong = ((0, (1, 0), 1),)
        for box in ((241, 1), (16, 16), (10 ** 9, 1)):
            self.raises(TooLarge, {"limit": 240}, strip_words, F, beats, rows, sides, box, wrong, None)
            self.raises(TooLarge, {"limit": 240}, kept_words, F, rows, sides, box, None)
        for value in ODD + (wrong, ((0, (-1, 0), 65521),), ((1, (-1, 0), 1),)):
            error = first_reason(F, (3, 2), value)
            if error is not None:
                for blocks in (None, ((1,), (0,)), ((0,), (1,))):
                    self.raises(BadOutside, {"error": error}, strip_words, F, beats, rows, sides, (3, 2), value, blocks)
        for value in ODD + (((0,),), ((0,), (0,)), ((0,), (1,), (2,)), [(0,), (1,)], ((0,), [1]), ((0,), (True,)), ((False,), (1,)), ((0,), (1, 0)),
                            ((1,), (-1,)), ((0,), 1), ((0,), ("1",)), ((0,), (1,), (1,))):
            self.raises(BadBlocks, {"blocks": value}, strip_words, F, beats, rows, sides, (3, 2), (), value)
            self.raises(BadBlocks, {"blocks": value}, kept_words, F, rows, sides, (3, 2), value)
        self.raises(NotYet, {"plane": 0, "point": (2, 0)}, strip_words, F, beats, rows, sides, (3, 2), (), ((1,), (0,)))
        self.same(kept_words(F, rows, sides, (3, 2), ((1,), (0,))), (0,))
        # One block has all words, so nothing is kept behind it.
        self.same(kept_words(F, rows, (720,), (3, 2), ((0,),)), ())

    def test_words_do_not_depend_on_the_blocks(self):
        for rng, flow, beats, rows, sides, box in some_strips(313, 60):
            outside = some_outside(rng, flow, box)
            word, told = find_plan(flow, rows, sides, box)
            if word == "plan":
                self.same(strip_words(flow, beats, rows, sides, box, outside, told), reckoned(flow, box, outside))

    def test_240_points(self):
        for box in ((240, 1), (15, 16), (2, 120)):
            for rows, sides in ((((1, 0),), (1,)), (((1, 0),), (7,)), (((1, -1),), (3,))):
                outside = ((0, (-1, 0), 1), (0, (0, -1), 5))
                word, told = find_plan(F, rows, sides, box)
                if word == "plan":
                    self.same(ask(strip_words, F, ((1, 1), (0,)), rows, sides, box, outside, told), reckoned(F, box, outside))
                    self.same(ask(kept_words, F, rows, sides, box, told), kept(F, rows, sides, box, told))
        self.same(kept_words(F, ((1, 0),), (1,), (240, 1), tuple((at,) for at in range(240))), (1,) * 239)


if __name__ == "__main__":
    unittest.main()

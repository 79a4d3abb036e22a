"""Blocks of places that are worked off one after another: in which order, and what is kept between them."""

from wirebeats.boxes import check_small, point_at, products_of
from wirebeats.errors import BadBlocks, NotYet
from wirebeats.flows import reads_of
from wirebeats.sheets import addresses_of, apart, many_of, strides_of
from wirebeats.vectors import combined, dot, is_tuple_of, is_vector
from wirebeats.words import check_outside, words_made


def moves_of_step(step, sides):
    """The list of all moves of a step."""
    moves = [()]
    for item, side in zip(step, sides):
        least = item // side
        choices = [least] if item % side == 0 else [least, least + 1]
        moves = [move + (choice,) for move in moves for choice in choices]
    return moves


def moves_of(steps, sides):
    """The ascending tuple of the moves of all steps, without the one that stays."""
    moves = sorted(set([move for step in steps for move in moves_of_step(step, sides)]))
    return tuple([move for move in moves if any(move)])


def turn(one, other):
    """Above 0 if the other vector of two items lies to the left of the first one, below 0 if to the right."""
    return one[0] * other[1] - one[1] * other[0]


def counts_at(many, told):
    """A tuple of so many numbers, which are 0 except those that are told by pairs (index, number)."""
    counts = [0 for _ in range(many)]
    for index, number in told:
        counts[index] = number
    return tuple(counts)


def widened(vectors, first, last, at):
    """Counts (index, number) that sum up to nothing, or the edges of the cone with one vector more.

    The cone spans from the vector with the index first leftwards to that with the index last, by less than half a
    turn. Returns (first, last, None) or (None, None, counts).
    """
    right = turn(vectors[first], vectors[at])
    left = turn(vectors[at], vectors[last])
    whole = turn(vectors[first], vectors[last])
    if whole == 0 and right == 0:
        # All vectors so far lie along one line, in one direction.
        axis = 0 if vectors[at][0] != 0 else 1
        if vectors[first][axis] * vectors[at][axis] > 0:
            return (first, last, None)
        return (None, None, [(first, abs(vectors[at][axis])), (at, abs(vectors[first][axis]))])
    if whole > 0 and right <= 0 and left <= 0:
        return (None, None, [(first, -left), (last, -right), (at, whole)])
    return (at if right < 0 else first, at if left < 0 else last, None)


def order_of(vectors):
    """(h, None) with a vector whose products with all these are at least 1, or (None, counts) if there is none."""
    first = last = 0
    for at in range(1, len(vectors)):
        first, last, told = widened(vectors, first, last, at)
        if told is not None:
            return (None, counts_at(len(vectors), told))
    low = vectors[first]
    high = vectors[last]
    if turn(low, high) == 0:
        return (low, None)
    # The product with a vector is how far it lies to the left of low and to the right of high.
    return ((high[1] - low[1], low[0] - high[0]), None)


def find_order(steps, sides):
    """Numbers that order the blocks so that all moves go forwards, or counts of moves that lead nowhere."""
    moves = moves_of(steps, sides)
    if not moves:
        return ("order", (0,) * len(sides))
    # Moves of one item are those of two along the first axis.
    order, counts = order_of([(move + (0,))[:2] for move in moves])
    if order is None:
        return ("ring", counts)
    return ("order", order[:len(sides)])


def order_holds(steps, sides, value):
    """Whether value is right, whoever made it."""
    if not is_tuple_of(2, value):
        return False
    word, told = value
    moves = moves_of(steps, sides)
    if word == "order":
        return is_vector(len(sides), told) and all([dot(told, move) >= 1 for move in moves])
    if word != "ring" or not is_vector(len(moves), told) or not any(told):
        return False
    return min(told) >= 0 and not any(combined(told, moves))


def block_by_point(rows, sides, box):
    """The list of the blocks of the points of a small box, in the ascending order of the points."""
    items = [[product // side for product in products_of(box, row)] for row, side in zip(rows, sides)]
    return [block for block in zip(*items)]


def blocks_of(rows, sides, box):
    """The ascending tuple of the blocks in which a point of a small box has its place."""
    check_small(box)
    return tuple(sorted(set(block_by_point(rows, sides, box))))


def numbers_around(box, strides, addresses, numbers):
    """A sheet with these numbers at the points of the box, and -1 around it."""
    sheet = [-1] * many_of(box, strides)
    for address, number in zip(addresses, numbers):
        sheet[address] = number
    return sheet


def waits_of(flow, box, numbers):
    """The ascending list of pairs (block, other) of numbers of blocks of which the first one waits for the other one.

    The numbers of the blocks are given for all points in ascending order.
    """
    strides = strides_of(box)
    addresses = addresses_of(box, strides)
    sheet = numbers_around(box, strides, addresses, numbers)
    pairs = {}
    for back in sorted(set([apart(strides, distance) for _, _, _, distance in reads_of(flow)])):
        for address, number in zip(addresses, numbers):
            other = sheet[address - back]
            if other >= 0 and other != number:
                pairs[(number, other)] = True
    return sorted(pairs)


def planned(many, waits):
    """The list of so many blocks in an order in which each waits for blocks before it only, as far as there is one."""
    behind = [[] for _ in range(many)]
    missing = [0 for _ in range(many)]
    for block, other in waits:
        behind[other].append(block)
        missing[block] += 1
    plan = []
    fresh = [block for block in range(many) if missing[block] == 0]
    while fresh:
        block = fresh.pop()
        plan.append(block)
        for reader in behind[block]:
            missing[reader] -= 1
            if missing[reader] == 0:
                fresh.append(reader)
    return plan


def ring_left(many, waits, plan):
    """A ring of blocks that are not in the plan, each of which waits for the one before it."""
    done = {block: True for block in plan}
    # Each of those that are left waits for another one that is left.
    before = {block: other for block, other in waits if block not in done and other not in done}
    block = [block for block in range(many) if block not in done][0]
    found = {}
    walk = []
    while block not in found:
        found[block] = len(walk)
        walk.append(block)
        block = before[block]
    return walk[found[block]:][::-1]


def numbered(rows, sides, box):
    """The ascending tuple of the blocks, and for each point in ascending order the number of its block."""
    by_point = block_by_point(rows, sides, box)
    blocks = tuple(sorted(set(by_point)))
    number_of = {block: number for number, block in enumerate(blocks)}
    return (blocks, [number_of[block] for block in by_point])


def find_plan(flow, rows, sides, box):
    """An order of the blocks in which each waits only for blocks before it, or a ring of blocks that bars it."""
    check_small(box)
    blocks, numbers = numbered(rows, sides, box)
    waits = waits_of(flow, box, numbers)
    plan = planned(len(blocks), waits)
    if len(plan) == len(blocks):
        return ("plan", tuple([blocks[number] for number in plan]))
    ring = ring_left(len(blocks), waits, plan)
    return ("ring", tuple([blocks[number] for number in ring]))


def positions_of(blocks, value):
    """For each block in ascending order its position in value, or None if that is no tuple of blocks, each once.

    The position of a block that is not there is -1.
    """
    if not isinstance(value, tuple) or len(value) > len(blocks):
        return None
    if not all([is_vector(len(blocks[0]), block) for block in value]):
        return None
    position_of = {block: position for position, block in enumerate(value)}
    positions = [position_of.get(block, -1) for block in blocks]
    # What is told twice, or is no block, leaves a position that no block has.
    told = [position for position in positions if position >= 0]
    return positions if len(told) == len(value) else None


def plan_holds(flow, rows, sides, box, value):
    """Whether value is right, whoever made it."""
    check_small(box)
    if not is_tuple_of(2, value):
        return False
    word, told = value
    blocks, numbers = numbered(rows, sides, box)
    positions = positions_of(blocks, told)
    if positions is None or word not in ("plan", "ring"):
        return False
    waits = [(positions[block], positions[other]) for block, other in waits_of(flow, box, numbers)]
    if word == "plan":
        return len(told) == len(blocks) and all([other < block for block, other in waits])
    pairs = {pair: True for pair in waits}
    many = len(told)
    return many > 1 and all([(at, (at - 1) % many) in pairs for at in range(many)])


def checked_positions(rows, sides, box, value):
    """For each point in ascending order the position of its block, or BadBlocks if value does not tell all blocks."""
    blocks, numbers = numbered(rows, sides, box)
    positions = positions_of(blocks, value)
    if positions is None or len(value) < len(blocks):
        raise BadBlocks(value)
    return [positions[number] for number in numbers]


def check_order(flow, beats, box, positions):
    """Raise NotYet with the first word that reads one of a later block."""
    weights, starts = beats
    strides = strides_of(box)
    addresses = addresses_of(box, strides)
    sheet = numbers_around(box, strides, addresses, positions)
    levels = products_of(box, weights)
    early = []
    for plane, _, _, distance in reads_of(flow):
        back = apart(strides, distance)
        # Within a block each word is there before it is read, since every delay is at least 1.
        found = [at for at, address in enumerate(addresses) if sheet[address - back] > sheet[address]]
        early.extend([(positions[at], levels[at] + starts[plane], plane, at) for at in found])
    if early:
        _, _, plane, at = min(early)
        raise NotYet(plane, point_at(box, at))


def strip_words(flow, beats, rows, sides, box, outside, blocks):
    """The words of a small box, made block by block in this order."""
    check_small(box)
    check_outside(flow, box, outside)
    check_order(flow, beats, box, checked_positions(rows, sides, box, blocks))
    # In an order in which each word is there before it is read, the words are those of any other such order.
    return words_made(flow, beats, box, outside)


def last_readers(flow, box, positions):
    """For each plane, the list of the last positions at which the words at all points are read, -1 if at none."""
    strides = strides_of(box)
    addresses = addresses_of(box, strides)
    many = many_of(box, strides)
    sheets = [[-1] * many for _ in flow[1]]
    for source, distance in sorted(set([(source, distance) for _, _, source, distance in reads_of(flow)])):
        back = apart(strides, distance)
        sheet = sheets[source]
        for address, position in zip(addresses, positions):
            if sheet[address - back] < position:
                sheet[address - back] = position
    return [[sheet[address] for address in addresses] for sheet in sheets]


def kept_words(flow, rows, sides, box, blocks):
    """For each block but the last one, how many words of the blocks up to it are read by later ones."""
    check_small(box)
    positions = checked_positions(rows, sides, box, blocks)
    # How many words more are kept behind each block than behind the one before it.
    more = [0 for _ in blocks]
    for row in last_readers(flow, box, positions):
        for position, last in zip(positions, row):
            if last > position:
                more[position] += 1
                more[last] -= 1
    kept = []
    many = 0
    for number in more[:-1]:
        many += number
        kept.append(many)
    return tuple(kept)

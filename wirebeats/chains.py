"""Chains of words in a box, each of which reads the one before it, and loops of such words."""

from wirebeats.boxes import check_small, is_point, points_of
from wirebeats.errors import Looped
from wirebeats.flows import is_plane
from wirebeats.sheets import addresses_of, apart, many_of, strides_of
from wirebeats.vectors import is_tuple_of, is_vector, moved_by

# A word is told here by its index among the items of the sheets of all planes, one behind another.


def links_of(flow, strides, many):
    """For each plane, how many items behind one of its words each word that it reads stands."""
    links = []
    for plane, rule in enumerate(flow[1]):
        links.append([(plane - source) * many + apart(strides, distance) for source, distance in rule[1:]])
    return links


def readers_behind(flow, links):
    """For each plane, how many items behind one of its words each word that reads it stands."""
    readers = [[] for _ in links]
    for rule, row in zip(flow[1], links):
        for read, link in zip(rule[1:], row):
            readers[read[0]].append(link)
    return readers


def waits_of(links, many, words):
    """For each word of the box how many words of the box its reads are, and -1 for all other items."""
    waits = [-1] * (many * len(links))
    for row in words:
        for word in row:
            waits[word] = 0
    for row, behind in zip(words, links):
        for link in behind:
            for word in row:
                if waits[word - link] >= 0:
                    waits[word] += 1
    return waits


def rank_words(readers, many, words, waits):
    """The ranks by words; waits then tells for each word how many of its reads have no rank."""
    ranks = {}
    rank = 0
    layer = [word for row in words for word in row if waits[word] == 0]
    while layer:
        behind = []
        for word in layer:
            ranks[word] = rank
            for link in readers[word // many]:
                reader = word + link
                waits[reader] -= 1
                # What is no word of the box is below 0 and gets no rank.
                if waits[reader] == 0:
                    behind.append(reader)
        layer = behind
        rank += 1
    return ranks


def loop_of(links, many, words, waits):
    """A loop of words without a rank, or None if there is none."""
    left = [word for row in words for word in row if waits[word] > 0]
    if not left:
        return None
    word = left[0]
    found = {}
    walk = []
    while word not in found:
        found[word] = len(walk)
        walk.append(word)
        word = [word - link for link in links[word // many] if waits[word - link] > 0][0]
    return walk[found[word]:][::-1]


def told_words(box, words, chain):
    """The tuple of these words as (plane, point)."""
    points = points_of(box)
    named = {word: (plane, point) for plane, row in enumerate(words) for word, point in zip(row, points)}
    return tuple([named[word] for word in chain])


def ranked(flow, box):
    """(words, links, ranks, loop): the words of each plane, the links by words, their ranks, and a loop or None."""
    check_small(box)
    strides = strides_of(box)
    many = many_of(box, strides)
    addresses = addresses_of(box, strides)
    words = [[plane * many + address for address in addresses] for plane in range(len(flow[1]))]
    links = links_of(flow, strides, many)
    waits = waits_of(links, many, words)
    ranks = rank_words(readers_behind(flow, links), many, words, waits)
    loop = loop_of(links, many, words, waits)
    return (words, links, ranks, None if loop is None else told_words(box, words, loop))


def find_ranks(flow, box):
    """The ranks of all words of a small box, or a loop."""
    words, _, ranks, loop = ranked(flow, box)
    if loop is not None:
        return ("loop", loop)
    return ("ranks", tuple([tuple([ranks[word] for word in row]) for row in words]))


def is_word(flow, box, value):
    return is_tuple_of(2, value) and is_plane(flow, value[0]) and is_point(box, value[1])


def is_reader(flow, word, other):
    """Whether a word reads another one."""
    plane, point = word
    return (other[0], moved_by(point, -1, other[1])) in flow[1][plane][1:]


def is_loop(flow, box, value):
    if not isinstance(value, tuple) or not value or not all([is_word(flow, box, word) for word in value]):
        return False
    return all([is_reader(flow, word, before) for before, word in zip(value[-1:] + value, value)])


def ranks_hold(flow, box, value):
    """Whether value tells the ranks or any loop, whoever made it."""
    check_small(box)
    if not is_tuple_of(2, value):
        return False
    word, told = value
    if word == "loop":
        return is_loop(flow, box, told)
    if word != "ranks" or not is_tuple_of(len(flow[1]), told):
        return False
    # A bool is equal to an integer, so the kinds of all items are looked at, too.
    if not all([isinstance(row, tuple) and is_vector(len(row), row) for row in told]):
        return False
    return find_ranks(flow, box) == value


def longest_chain(flow, box):
    """A chain with as many words as possible."""
    words, links, ranks, loop = ranked(flow, box)
    if loop is not None:
        raise Looped(loop)
    plane_of = {word: plane for plane, row in enumerate(words) for word in row}
    # The ranks stand in ascending order, so a word with the greatest one is the last.
    word = list(ranks)[-1]
    chain = [word]
    while ranks[word] > 0:
        rank = ranks[word] - 1
        word = [word - link for link in links[plane_of[word]] if ranks.get(word - link) == rank][0]
        chain.append(word)
    return told_words(box, words, chain[::-1])

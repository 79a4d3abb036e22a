"""The examples of the document, as they stand."""

import doctest
import unittest

EXAMPLES = {
    5: """
>>> from wirebeats.flows import flow_error, is_flow
>>> F = (2, (("add", (0, (1, 0)), (0, (0, 1))),))
>>> [is_flow(F), flow_error((4, F[1])), flow_error((2, (("neg", (1, (1, 0))),))), flow_error((2, (("neg", (0, (5, 0))),)))]
[True, (None, 'dims'), ((0, 0), 'source'), ((0, 0), 'distance')]
""",
    6: """
>>> from wirebeats.flows import needed, readers_of, reads_of
>>> F = (2, (("copy", (0, (0, 1))), ("copy", (1, (1, 0))), ("madd", (2, (1, 1)), (0, (0, 0)), (1, (0, 0)))))
>>> [reads_of(F)[2], readers_of(F, 0), needed(F, 1), needed(F, 2), needed(F)]
[(2, 0, 2, (1, 1)), (0, 2), (1,), (0, 1, 2), ()]
""",
    9: """
>>> from wirebeats.boxes import box_error, point_at, point_index, points_of
>>> [box_error(2, (3, 0)), points_of((2, 2)), point_index((10 ** 9, 10 ** 9), (7, 5)), point_at((4, 3, 2), 23)]
[(1, 'size'), ((0, 0), (0, 1), (1, 0), (1, 1)), 7000000005, (3, 2, 1)]
""",
    11: """
>>> from wirebeats.words import outside_error
>>> F = (2, (("add", (0, (1, 0)), (0, (0, 1))),))
>>> [outside_error(F, (2, 3), value) for value in [((0, (-1, 0), 1),), ((0, (1, 0), 1),), ((0, (-1, 0), 1), (0, (-1, 0), 2))]]
[None, (0, 'vector'), (1, 'order')]
""",
    12: """
>>> from wirebeats.words import word_at, words_of
>>> F = (2, (("add", (0, (1, 0)), (0, (0, 1))),))
>>> [words_of(F, ((1, 1), (0,)), (2, 3), ((0, (-1, 0), 1),)), word_at(F, ((2, 1), (0,)), (2, 3), ((0, (-1, 0), 1),), 0, (1, 2))]
[((1, 1, 1, 1, 2, 3),), 3]
""",
    13: """
>>> from wirebeats.words import each_word
>>> F = (2, (("add", (0, (1, 0)), (0, (0, 1))),))
>>> list(each_word(F, ((1, 1), (0,)), (2, 3), ((0, (-1, 0), 1),)))[1:3]
[(1, 0, (0, 1), 1), (1, 0, (1, 0), 1)]
""",
    14: """
>>> from wirebeats.words import Flow
>>> one = Flow.of(2, ("neg", (0, (1, 0))))
>>> [one.reads, len(one + one), (one + one)[1], ("neg", (0, (1, 0))) in one, one(((1, 0), (0,)), (2, 1), ((0, (-1, 0), 5),))]
[((0, 0, 0, (1, 0)),), 2, ('neg', (1, (1, 0))), True, ((65516, 5),)]
""",
    16: """
>>> from wirebeats.beats import beat_of, beats_error, delays_of
>>> F = (2, (("add", (0, (1, 0)), (0, (0, 1))),))
>>> G = (2, (("copy", (1, (0, 0))), ("neg", (0, (1, 0)))))
>>> [beats_error(F, value) for value in [((1, 0), (0,)), ((1, 61), (0,))]]
[((0, 1), 'delay'), (1, 'weight')]
>>> [delays_of(G, ((2, 0), (0, 0))), beat_of(G, ((2, 0), (1, 0)), 0, (3, -5))]
[((0,), (2,)), 7]
""",
    17: """
>>> from wirebeats.ways import is_ring, is_way, need_of, rings_of, way_to
>>> G = (2, (("copy", (1, (0, 0))), ("neg", (0, (1, 0)))))
>>> [is_way(G, ((1, 0), (0, 0))), is_ring(G, ((0, 0),)), need_of(G, (1, 5), ((0, 0), (1, 0)))]
[True, False, 1]
>>> [way_to(G, 1, 0), way_to(G, 0, 0), rings_of(G)]
[((0, 0),), (), (((0, 0), (1, 0)),)]
""",
    18: """
>>> from wirebeats.starts import find_starts, starts_hold
>>> G = (2, (("copy", (1, (0, 0))), ("neg", (0, (1, 0)))))
>>> [find_starts(G, (2, 0)), find_starts(G, (1, 5)), starts_hold(G, (2, 0), ("starts", (-3, -4)))]
[('starts', (1, 0)), ('ring', ((0, 0), (1, 0))), True]
""",
    19: """
>>> from wirebeats.slowing import find_factor, find_ratio
>>> G = (2, (("copy", (1, (0, 0))), ("neg", (0, (1, 0)))))
>>> [find_factor(G, (1, 5)), find_factor(G, (0, 5)), find_ratio(G, (1, 5))[:3]]
[('factor', 2, (1, 0), ((0, 0), (1, 0))), ('never', ((0, 0), (1, 0))), ('ratio', 2, 1)]
""",
    20: """
>>> from wirebeats.spans import span_of
>>> H = (2, (("copy", (0, (0, 1))), ("copy", (1, (1, 0))), ("madd", (2, (1, 1)), (0, (0, 0)), (1, (0, 0)))))
>>> T = ((1, 1), (0, 0, 1))
>>> [span_of(H, T, (3, 4)), span_of(H, T, (10 ** 9, 4), 2)]
[(0, 6, 7), (1, 1000000003, 1000000003)]
""",
    21: """
>>> from wirebeats.waiting import find_waiting, waiting_holds, waiting_of
>>> H = (2, (("copy", (0, (0, 1))), ("copy", (1, (1, 0))), ("madd", (2, (1, 1)), (0, (0, 0)), (1, (0, 0)))))
>>> [find_waiting(H, (1, 1))[0], waiting_of(H, ((1, 1), (0, 0, 3))), waiting_holds(H, (1, 1), (6, (2, 2, 3), ((0,), (0,), (0, 1, 1))))]
[6, 10, True]
""",
    22: """
>>> from wirebeats.chains import find_ranks, longest_chain
>>> F = (2, (("add", (0, (1, 0)), (0, (0, 1))),))
>>> S = (2, (("add", (0, (1, -1)), (0, (-1, 1))),))
>>> [find_ranks(F, (2, 2)), find_ranks(S, (1, 3)), find_ranks(S, (2, 2))[0], len(longest_chain(F, (2, 3)))]
[('ranks', ((0, 1, 1, 2),)), ('ranks', ((0, 0, 0),)), 'loop', 4]
""",
    24: """
>>> from wirebeats.timings import Beats
>>> G = (2, (("copy", (1, (0, 0))), ("neg", (0, (1, 0)))))
>>> one = Beats(G, ((5, 0), (3, 0)))
>>> [one.delays, one(1, (2, 9)), (one + 4).starts, str(one)]
[((3,), (2,)), 10, (7, 4), '5,0 3 0']
>>> (one & Beats(G, ((5, 0), (2, 1)))).starts
(2, 0)
""",
    26: """
>>> from wirebeats.directions import between, directions, is_direction, period
>>> [is_direction(2, (2, -4)), is_direction(2, (1, -4)), directions(2, 1), period((1, 2), (1, -3)), between((0, 0, 1), (2, -4, 1))]
[False, True, ((0, 1), (1, -1), (1, 0), (1, 1)), 5, ((1, -2, 0), 2)]
""",
    27: """
>>> from wirebeats.lines import each_line, line_through, steps_between
>>> [line_through((4, 3), (1, -1), (2, 1)), steps_between((1, -1), (5, 0), (2, 3))]
[((1, 2), 3, 1), -3]
>>> list(each_line((3, 2), (1, 1)))
[((0, 0), 2), ((0, 1), 1), ((1, 0), 2), ((2, 0), 1)]
""",
    28: """
>>> from wirebeats.lines import line_at, line_index
>>> [line_at((10 ** 9, 10 ** 9), (1, 1), 10 ** 9), line_index((10 ** 9, 10 ** 9), (1, 1), (5, 3))]
[((1, 0), 999999999), 1000000001]
""",
    29: """
>>> from wirebeats.counts import count_lines, count_long, fewest_lines, longest_line
>>> [count_lines((3, 2), (1, 1)), longest_line((3, 2), (1, 1)), count_long((3, 2), (1, 1), 2), fewest_lines((3, 2), (1, 1), 1)]
[4, 2, 2, (2, (1, 0))]
""",
    30: """
>>> from wirebeats.counts import count_at
>>> [count_at((3, 2), (1, 1), 2), count_at((10 ** 9, 10 ** 9), (2, 3), 10 ** 9), count_at((3, 2), (0, 0), 0)]
[2, 166666667, 6]
""",
    31: """
>>> from wirebeats.clashes import clash_holds, find_clash
>>> [find_clash((3, 1), (1, -1), (1, 1)), find_clash((3, 2), (1, -1), (0, 1)), clash_holds((3, 2), (1, -1), (1, 1), ("clash", (1, 0), (2, 1)))]
[('side', 1), ('period', 1), True]
""",
    33: """
>>> from wirebeats.places import canonical_rows, rows_certificate, rows_certificate_holds
>>> [canonical_rows((3, -2)), canonical_rows((1, 1, 1)), canonical_rows((1, -2, 0))]
[((2, 3),), ((1, 0, -1), (0, 1, -1)), ((2, 1, 0), (0, 0, 1))]
>>> [rows_certificate((1, 1, 1), ((1, 0, 0), (0, 1, -1))), rows_certificate_holds((1, 1, 1), ((2, 0, -2), (0, 1, -1)), ("missed", (1, 2), 2))]
[('moved', 0), True]
""",
    34: """
>>> from wirebeats.places import change_of, first_at, place_of
>>> [place_of(((1, -1),), (0, 1)), first_at((3, 2), (1, 1), ((1, -1),), (1,)), first_at((3, 2), (1, 1), ((1, -1),), (5,))]
[(-1,), (1, 0), None]
>>> change_of(((1, 0, -1), (0, 1, -1)), ((1, -1, 0), (0, 1, -1)))
((1, -1), (0, 1))
""",
    35: """
>>> from wirebeats.remainders import next_beat, remainders, works_at
>>> [remainders((1, 2), (1, 1), ((1, -1),)), remainders((1, 2, 3), (1, 1, 1), ((1, 0, -1), (0, 1, -1)))]
[(1,), (1, 2)]
>>> [works_at((1, 2), (1, 1), ((1, -1),), (-1,), 2), works_at((1, 2), (1, 1), ((1, -1),), (-1,), 3), next_beat((1, 2), (1, 1), ((1, -1),), (-1,), 3)]
[(0, 1), None, 5]
""",
    36: """
>>> from wirebeats.lineobjects import Lines
>>> lines = Lines((1, 1))
>>> [lines((3, 2), (2, 1)), lines // (3, 2), lines * (1, 2), lines == Lines((-1, -1)), ((0, 0), (2, 2)) in lines, str(lines), Lines.through((0, 4), (0, 1)).along]
[((1, 0), 2, 1), 4, 3, True, True, 'lines along 1 1', (0, -1)]
""",
    38: """
>>> from wirebeats.arrays import array_error
>>> A = (2, (1,), (0,), (("add", (0, (1,), 1), (0, (-1,), 1)),))
>>> [array_error((0,) + A[1:]), array_error((2, (0,)) + A[2:])]
[(None, 'period'), ((0, 0), 'gain')]
""",
    39: """
>>> from wirebeats.arrays import array_of, gains, parts
>>> F = (2, (("add", (0, (1, 0)), (0, (0, 1))),))
>>> A = array_of(F, ((1, 1), (0,)), (1, 1), ((1, -1),))
>>> [A, gains(A), parts(A)]
[(2, (1,), (0,), (('add', (0, (1,), 1), (0, (-1,), 1)),)), ((1, 1),), 1]
""",
    40: """
>>> from wirebeats.arrays import read_back
>>> A = (2, (1,), (0,), (("add", (0, (1,), 1), (0, (-1,), 1)),))
>>> [read_back(A, ((1, -1),), (1, 1)), read_back(A, ((1, -1),), (3, -1))]
[(2, (('add', (0, (1, 0)), (0, (0, 1))),)), (2, (('add', (0, (0, -1)), (0, (1, 2))),))]
""",
    43: """
>>> from wirebeats.runs import run, state_at
>>> A = (2, (1,), (0,), (("add", (0, (1,), 1), (0, (-1,), 1)),))
>>> field, feeds = (((-1,), 1, 1), ((0,), 0, 2), ((1,), 1, 1)), ((0, (-1,), -1, 1),)
>>> run(A, field, feeds)
((0, (0,), 0, 1), (1, (-1,), 0, 1), (1, (1,), 0, 1), (2, (0,), 0, 2))
>>> state_at(A, field, feeds, 0)
((0, (0,), 0, 1),)
""",
    45: """
>>> from wirebeats.alike import change_holds, find_change
>>> A = (2, (1,), (0,), (("add", (0, (1,), 1), (0, (-1,), 1)),))
>>> C = A[:3] + ((("add", (0, (1,), 1), (0, (1,), 1)),),)
>>> [find_change(A, A[:2] + ((3,),) + A[3:]), change_holds(A, C, ("steps", (2, 2)))]
[('change', ((1,),), (3,)), True]
""",
    46: """
>>> from wirebeats.alike import Array
>>> one = Array.of((2, (("add", (0, (1, 0)), (0, (0, 1))),)), ((1, 1), (0,)), (1, 1), ((1, -1),))
>>> [(one * 2).value[:3], (one // ((-1,),))[0]]
[(4, (2,), (0,)), ('add', (0, (-1,), 1), (0, (1,), 1))]
""",
    47: """
>>> from wirebeats.jobs import free_begin, gap_serves, meeting, next_gap
>>> W, U, B, Z = (1, 1), (1, 1), (3, 3), (0, 0)
>>> [meeting(W, U, (Z, B, 0), (Z, B, 4)), meeting(W, U, (Z, B, 0), (Z, B, 3)), [gap_serves(W, U, B, gap, None) for gap in range(1, 7)]]
[((2, 2), (0, 0)), None, [False, False, True, False, True, True]]
>>> [gap_serves(W, U, B, 1, 2), next_gap(W, U, B, 4), free_begin(W, U, Z, B, ((Z, B, 0), (Z, B, 1)), 0)]
[True, 5, 6]
""",
    48: """
>>> from wirebeats.borders import count_outside, from_outside
>>> [from_outside((4, 4), (1, 1), (2, 2), (1, 0)), from_outside((4, 4), (1, 1), (0, 0), (-1, 2))]
[((0, 1),), ((0, 2), (3, 1))]
>>> F = (2, (("add", (0, (1, 0)), (0, (0, 1))),))
>>> [count_outside(F, (4, 4), 0), count_outside(F, (10 ** 9, 1), 0)]
[8, 1000000001]
""",
    50: """
>>> from wirebeats.clusters import find_free, free_holds
>>> [find_free(6, (2, 3), (3, 2)), find_free(6, (2, 3), (1, 3))[0], free_holds(4, (2,), (3,), ("meet", (-2,)))]
[('free', (0, 3, 2, 5, 4, 1)), 'meet', True]
""",
    51: """
>>> from wirebeats.clusters import greatest_sides, tight_sides
>>> [tight_sides(6, (2, 3)), tight_sides(5, (1, 2)), greatest_sides(5, (1, 2))]
[((3, 2),), ((1, 5), (5, 1)), ((1, 5), (2, 2), (5, 1))]
""",
    52: """
>>> from wirebeats.clusters import worker
>>> [worker(6, (2, 3), (3, 2), 0, (1, 0), 5), worker(6, (2, 3), (2, 2), 1, (0, 0), 5)]
[(4, 1), None]
""",
    53: """
>>> from wirebeats.clusters import box_meeting, meeting_points
>>> R = ((1, -1),)
>>> [meeting_points((2, 1), R, (4,), (3,)), box_meeting((2, 1), R, (4,), (4, 3))]
[((0, 0), (1, -2)), ((2, 2), (3, 0))]
""",
    55: """
>>> from wirebeats.strips import find_order, moves_of
>>> [moves_of(((1, -1), (0, 0)), (2, 2)), moves_of(((3, 1),), (2, 2))]
[((0, -1), (1, -1), (1, 0)), ((1, 0), (1, 1), (2, 0), (2, 1))]
>>> [find_order(((4,), (0,)), (3,))[0], find_order(((1,), (-2,)), (3,))[0]]
['order', 'ring']
""",
    56: """
>>> from wirebeats.strips import blocks_of, find_plan
>>> R = ((1, 0),)
>>> G = (2, (("add", (0, (1, 1)), (0, (-1, 1))),))
>>> [blocks_of(R, (2,), (3, 2)), find_plan((2, (("add", (0, (1, 0)), (0, (0, 1))),)), R, (2,), (3, 2)), find_plan(G, R, (1,), (2, 2))[0]]
[((0,), (1,)), ('plan', ((0,), (1,))), 'ring']
""",
    57: """
>>> from wirebeats.strips import kept_words, strip_words
>>> F = (2, (("add", (0, (1, 0)), (0, (0, 1))),))
>>> B, R = ((1, 1), (0,)), ((1, 0),)
>>> [strip_words(F, B, R, (2,), (3, 2), ((0, (-1, 0), 1),), ((0,), (1,))), kept_words(F, R, (2,), (3, 2), ((0,), (1,)))]
[((1, 1, 1, 2, 1, 3),), (2,)]
""",
    59: """
>>> from wirebeats.hops import hops_error, relayed
>>> G = (2, (("neg", (0, (1, 2))),))
>>> [relayed(G, 0, 0, ((1, 0), (0, 1), (0, 1))), hops_error((1, 2), ((2, 0), (-1, 2)))]
[(2, (('neg', (2, (0, 1))), ('copy', (0, (1, 0))), ('copy', (1, (0, 1))))), (0, 'hop')]
""",
    60: """
>>> from wirebeats.hops import relayed_beats, relayed_outside
>>> G, H = (2, (("neg", (0, (1, 1))),)), ((1, 0), (0, 1))
>>> [relayed_beats(G, ((1, 1), (0,)), 0, 0, H), relayed_outside(G, (2, 2), ((0, (-1, -1), 5), (0, (-1, 0), 6), (0, (0, -1), 7)), 0, 0, H)]
[((1, 1), (0, 0)), ((0, (-1, -1), 5), (0, (-1, 0), 6), (0, (0, -1), 7), (1, (0, -1), 5), (1, (1, -1), 7))]
""",
    61: """
>>> from wirebeats.flowtexts import beats_text, numbers_text, vector_text
>>> [vector_text((1, -20)), numbers_text((0, 7)), beats_text(((2, -1), (0, 1)))]
['1,-20', '0 7', '2,-1 0 1']
""",
    62: """
>>> from wirebeats.flowtexts import flow_text, parse_flow, rule_text
>>> F = (2, (("add", (0, (1, 0)), (1, (0, -1))), ("copy", (0, (0, 0)))))
>>> [flow_text(F), parse_flow("3 / neg 0@1,0,0"), rule_text(("neg", (0, (1, 0))))]
['2 / add 0@1,0 1@0,-1 / copy 0@0,0', (3, (('neg', (0, (1, 0, 0))),)), 'neg 0@1,0']
""",
    66: """
>>> from wirebeats.benches import Bench
>>> bench = Bench((2, (("copy", (1, (0, 0))), ("neg", (0, (1, 0))))), (2, 0), (0, 1))
>>> [bench.starts_at(), bench.array_at(), bench.weigh((1, 5)), bench.starts_at(version=0) == bench.starts_at(), bench.array_at()[0]]
[('starts', (1, 0)), ('still', None), 1, False, 'ring']
""",
    69: """
>>> from wirebeats.benches import Bench
>>> bench = Bench((2, (("neg", (0, (1, 0))),)), (1, 2), (0, 1))
>>> [bench((2, 1), ((0, (-1, 0), 5),)), bench.period, bool(bench), bench.weigh((-1, 2)), bool(bench), str(bench)]
[((65516, 5),), 2, True, 1, False, '1 planes, 1 reads, period 2, 1 edits']
""",
    72: """
>>> from wirebeats.benches import Bench
>>> from wirebeats.shells import Shell
>>> shell = Shell(Bench((2, (("neg", (0, (1, 0))),)), (1, 2), (0, 1)))
>>> [shell("put add 1@0,1 0@0,0"), shell("put neg 4@0,0"), shell("starts"), shell("run 2,1 0@-1,0:5"), shell("aim 2,4")]
['ok 1', 'error BadRule', '0 1', '65516 5 / 65516 5', 'error BadDirection']
""",
}


class Examples(unittest.TestCase):
    def test_sessions(self):
        for number, session in EXAMPLES.items():
            with self.subTest(number):
                test = doctest.DocTestParser().get_doctest(session, {}, str(number), None, 0)
                result = doctest.DocTestRunner(verbose=False).run(test)
                self.assertEqual(result.failed, 0)
                self.assertGreater(result.attempted, 1)


if __name__ == "__main__":
    unittest.main()

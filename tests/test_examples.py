"""The examples of the document, as they stand."""

import doctest
import unittest

EXAMPLES = {
    5: """
>>> from wirebeats.flows import flow_error, is_flow
>>> F = (2, (("add", (0, (1, 0)), (0, (0, 1))),))
>>> [is_flow(F), flow_error((4, F[1])), flow_error((2, (("neg", (1, (1, 0))),))), flow_error((2, (("neg", (0, (5, 0))),)))]
[True, (None, 'dims'), ((0, 0), 'source'), ((0, 0), 'distance')]
""",
    6: """
>>> from wirebeats.flows import needed, readers_of, reads_of
>>> F = (2, (("copy", (0, (0, 1))), ("copy", (1, (1, 0))), ("madd", (2, (1, 1)), (0, (0, 0)), (1, (0, 0)))))
>>> [reads_of(F)[2], readers_of(F, 0), needed(F, 1), needed(F, 2), needed(F)]
[(2, 0, 2, (1, 1)), (0, 2), (1,), (0, 1, 2), ()]
""",
    9: """
>>> from wirebeats.boxes import box_error, point_at, point_index, points_of
>>> [box_error(2, (3, 0)), points_of((2, 2)), point_index((10 ** 9, 10 ** 9), (7, 5)), point_at((4, 3, 2), 23)]
[(1, 'size'), ((0, 0), (0, 1), (1, 0), (1, 1)), 7000000005, (3, 2, 1)]
""",
    16: """
>>> from wirebeats.beats import beat_of, beats_error, delays_of
>>> F = (2, (("add", (0, (1, 0)), (0, (0, 1))),))
>>> G = (2, (("copy", (1, (0, 0))), ("neg", (0, (1, 0)))))
>>> [beats_error(F, value) for value in [((1, 0), (0,)), ((1, 61), (0,))]]
[((0, 1), 'delay'), (1, 'weight')]
>>> [delays_of(G, ((2, 0), (0, 0))), beat_of(G, ((2, 0), (1, 0)), 0, (3, -5))]
[((0,), (2,)), 7]
""",
    26: """
>>> from wirebeats.directions import between, directions, is_direction, period
>>> [is_direction(2, (2, -4)), is_direction(2, (1, -4)), directions(2, 1), period((1, 2), (1, -3)), between((0, 0, 1), (2, -4, 1))]
[False, True, ((0, 1), (1, -1), (1, 0), (1, 1)), 5, ((1, -2, 0), 2)]
""",
    33: """
>>> from wirebeats.places import canonical_rows, rows_certificate, rows_certificate_holds
>>> [canonical_rows((3, -2)), canonical_rows((1, 1, 1)), canonical_rows((1, -2, 0))]
[((2, 3),), ((1, 0, -1), (0, 1, -1)), ((2, 1, 0), (0, 0, 1))]
>>> [rows_certificate((1, 1, 1), ((1, 0, 0), (0, 1, -1))), rows_certificate_holds((1, 1, 1), ((2, 0, -2), (0, 1, -1)), ("missed", (1, 2), 2))]
[('moved', 0), True]
""",
    34: """
>>> from wirebeats.places import change_of, first_at, place_of
>>> [place_of(((1, -1),), (0, 1)), first_at((3, 2), (1, 1), ((1, -1),), (1,)), first_at((3, 2), (1, 1), ((1, -1),), (5,))]
[(-1,), (1, 0), None]
>>> change_of(((1, 0, -1), (0, 1, -1)), ((1, -1, 0), (0, 1, -1)))
((1, -1), (0, 1))
""",
    35: """
>>> from wirebeats.remainders import next_beat, remainders, works_at
>>> [remainders((1, 2), (1, 1), ((1, -1),)), remainders((1, 2, 3), (1, 1, 1), ((1, 0, -1), (0, 1, -1)))]
[(1,), (1, 2)]
>>> [works_at((1, 2), (1, 1), ((1, -1),), (-1,), 2), works_at((1, 2), (1, 1), ((1, -1),), (-1,), 3), next_beat((1, 2), (1, 1), ((1, -1),), (-1,), 3)]
[(0, 1), None, 5]
""",
    38: """
>>> from wirebeats.arrays import array_error
>>> A = (2, (1,), (0,), (("add", (0, (1,), 1), (0, (-1,), 1)),))
>>> [array_error((0,) + A[1:]), array_error((2, (0,)) + A[2:])]
[(None, 'period'), ((0, 0), 'gain')]
""",
    39: """
>>> from wirebeats.arrays import array_of, gains, parts
>>> F = (2, (("add", (0, (1, 0)), (0, (0, 1))),))
>>> A = array_of(F, ((1, 1), (0,)), (1, 1), ((1, -1),))
>>> [A, gains(A), parts(A)]
[(2, (1,), (0,), (('add', (0, (1,), 1), (0, (-1,), 1)),)), ((1, 1),), 1]
""",
    40: """
>>> from wirebeats.arrays import read_back
>>> A = (2, (1,), (0,), (("add", (0, (1,), 1), (0, (-1,), 1)),))
>>> [read_back(A, ((1, -1),), (1, 1)), read_back(A, ((1, -1),), (3, -1))]
[(2, (('add', (0, (1, 0)), (0, (0, 1))),)), (2, (('add', (0, (0, -1)), (0, (1, 2))),))]
""",
    61: """
>>> from wirebeats.flowtexts import beats_text, numbers_text, vector_text
>>> [vector_text((1, -20)), numbers_text((0, 7)), beats_text(((2, -1), (0, 1)))]
['1,-20', '0 7', '2,-1 0 1']
""",
    62: """
>>> from wirebeats.flowtexts import flow_text, parse_flow, rule_text
>>> F = (2, (("add", (0, (1, 0)), (1, (0, -1))), ("copy", (0, (0, 0)))))
>>> [flow_text(F), parse_flow("3 / neg 0@1,0,0"), rule_text(("neg", (0, (1, 0))))]
['2 / add 0@1,0 1@0,-1 / copy 0@0,0', (3, (('neg', (0, (1, 0, 0))),)), 'neg 0@1,0']
""",
}


class Examples(unittest.TestCase):
    def test_sessions(self):
        for number, session in EXAMPLES.items():
            with self.subTest(number):
                test = doctest.DocTestParser().get_doctest(session, {}, str(number), None, 0)
                result = doctest.DocTestRunner(verbose=False).run(test)
                self.assertEqual(result.failed, 0)
                self.assertGreater(result.attempted, 1)


if __name__ == "__main__":
    unittest.main()

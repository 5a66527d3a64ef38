"""The examples of the document, module by module."""

import doctest
import unittest

EXAMPLES = r"""
>>> from gatewarden.ranges import either, outside, set_of
>>> set_of([(5, 9), (3, 3), (10, 12)])
((3, 3), (5, 12))
>>> outside(((3, 3), (5, 12)), 13)
((0, 2), (4, 4), (13, 13))
>>> either(((0, 2),), ((3, 4),))
((0, 4),)
>>> from gatewarden.prefixes import cover, exchanged
>>> cover(((1, 6),))
[(1, 16), (2, 15), (4, 15), (6, 16)]
>>> exchanged((((256, 8), (512, 8)),), 259)
515
>>> from gatewarden.sums import folded, mended, sum_of
>>> folded([65535, 1, 2])
3
>>> sum_of((1, 2, 3))
64509
>>> mended(64509, 258, 0)
64767
>>> from gatewarden.packets import length_of, write_packet
>>> length_of((1, 2, 17, 64, (), (7, 9), (5,)))
19
>>> write_packet((1, 2, 200, 64, (), (), (5,)))
(70, 200, 0, 13, 64, 0, 121, 39, 0, 1, 0, 2, 5)
>>> from gatewarden.talks import key_of, moved, sender_of, talk_code
>>> key_of((0, 6, 9, 80, 4, 1, 1, 0, 20))
(6, (4, 1), (9, 80))
>>> sender_of((0, 6, 9, 80, 4, 1, 1, 0, 20))
1
>>> moved(6, 0, 1, 1)
-1
>>> moved(6, -1, 0, 1)
-2
>>> talk_code(6, -2, 0, 1)
6
>>> B = (("main", (((("talk", ((2, 5),)),), ("accept",)), ((("interface", ((0, 0),)), ("talk", ((1, 1),))), ("jump", "inner"))), ("drop",)), ("inner", (((("dport", ((80, 80),)),), ("accept",)),), ("refuse", 3)))
>>> from gatewarden.books import is_book, rule_places
>>> is_book(B)
True
>>> rule_places(B)
[(0, 0), (0, 1), (1, 0)]
>>> from gatewarden.walking import walk
>>> walk(B, (0, 6, 9, 7, 4, 80, 1, 0, 20, 1, 0))
(('accept',), 0, (), ((0, 1), (1, 0)))
>>> walk(B, (0, 6, 9, 7, 4, 81, 1, 0, 20, 1, 0))
(('refuse', 3), 0, (), ((0, 1),))
>>> from gatewarden.cuts import settled
>>> from gatewarden.boxes import whole_box
>>> settled(B, whole_box())
('talk', 2)
>>> from gatewarden.plans import plan_of
>>> plan_of((("main", (((("sport", ((5, 9),)),), ("accept",)),), ("drop",)),))
(((3, ((4, ('drop',)), (9, ('accept',)), (65535, ('drop',)))),), 0)
>>> from gatewarden.rows import run_row, states_after
>>> run_row((B,), ((0, 6, 9, 7, 4, 80, 1, 0, 20), (1, 6, 4, 80, 9, 7, 1, 0, 20), (1, 6, 4, 80, 9, 7, 1, 0, 20)))
[('accept',), ('accept',), ('drop',)]
>>> states_after((B,), ((0, 6, 9, 7, 4, 80, 1, 0, 20), (1, 6, 4, 80, 9, 7, 1, 0, 20)))
[((6, (4, 80), (9, 7)), (-2,))]
>>> from gatewarden.gate import Gate
>>> from gatewarden.packets import write_packet
>>> gate = Gate(B, ())
>>> gate.receive(0, write_packet((9, 4, 17, 64, (), (7, 81), ())))[:2]
('back', 0)
>>> gate.receive(0, write_packet((9, 4, 17, 64, (), (7, 80), ())))[:2]
('out', 1)
>>> gate.talks()
[((17, (4, 80), (9, 7)), -1)]
>>> from gatewarden.questions import alike, ever, shortest
>>> alike((B,), (B, B))
True
>>> ever((B,), (("interface", ((1, 1),)),), ("accept",))
True
>>> shortest(("get", (B,), (("interface", ((1, 1),)),), ("accept",)))
2
>>> from gatewarden.machine import run_program
>>> run_program((("byte", 0, "outer", 1), ("less", 0, 17, 2, 3), ("answer", ("drop",)), ("answer", ("accept",))), (9, 4, 17, 64, (), (7, 81), ()), (0, 17, 9, 7, 4, 81, 0, 0, 18, 1, 0))
('answer', ('accept',), 3)
>>> from gatewarden.onekey import reached
>>> reached((B,), (17, (4, 80), (9, 7)))
[((-2,), 2), ((-1,), 1), ((0,), 0)]
>>> from gatewarden.cases import cases_of
>>> cases_of((("main", (((("sport", ((5, 9),)),), ("accept",)),), ("drop",)),))
[((('sport', ((0, 4), (10, 65535))),), ('drop',)), ((('sport', ((5, 9),)),), ('accept',))]
>>> from gatewarden.programtexts import write_program
>>> write_program((("put", 0, 5), ("answer", ("refuse", 3))))
'put 0 5\nanswer refuse 3'
>>> from gatewarden.booktexts import write_book
>>> write_book(B).split("\n")
['chain main', 'rule talk=2-5 accept', 'rule interface=0 talk=1 jump inner', 'default drop', 'chain inner', 'rule dport=80 accept', 'default refuse 3']
"""


class Examples(unittest.TestCase):
    def test_examples(self):
        test = doctest.DocTestParser().get_doctest(EXAMPLES, {}, "examples", None, 0)
        self.assertGreater(len(test.examples), 20)
        runner = doctest.DocTestRunner()
        runner.run(test)
        self.assertEqual(runner.failures, 0)


if __name__ == "__main__":
    unittest.main()

"""Points 9, 10 and 11: graphs and rings."""

import itertools
import unittest

from interface import InterfaceChecks
from provedunseen.errors import BadGraph, BadPermutation
from provedunseen.graphs import (
    edge_table, has_edge, is_ring_form, make_graph, node_pairs, pair_place, relabel, ring_edges, ring_form,
    ring_forms,
)

SQUARE = (4, ((0, 1), (0, 3), (1, 2), (2, 3)))


class GraphTest(unittest.TestCase, InterfaceChecks):
    def test_interface(self):
        self.check_functions("graphs", {
            "make_graph": "(nodes, edges)", "has_edge": "(graph, a, b)", "node_pairs": "(nodes)",
            "pair_place": "(nodes, a, b)", "edge_table": "(graph)", "relabel": "(graph, row)",
            "ring_form": "(row)", "ring_edges": "(row)", "is_ring_form": "(row, size)",
            "ring_forms": "(size)",
        })

    def test_make_graph(self):
        self.assertEqual(make_graph(4, [(3, 2), (1, 0), (2, 1), (0, 3)]), SQUARE)
        self.assertEqual(make_graph(1, []), (1, ()))
        self.assertEqual(make_graph(6, [(5, 0)]), (6, ((0, 5),)))
        full = make_graph(6, list(itertools.combinations(range(6), 2)))
        self.assertEqual(full, (6, tuple(itertools.combinations(range(6), 2))))

    def test_bad_graphs(self):
        for nodes in (0, 7, -1):
            with self.assertRaises(BadGraph):
                make_graph(nodes, [])
        wrong = [[(0, 3)], [(-1, 0)], [(3, 3)], [(1, 1)], [(0, 1), (0, 1)], [(0, 1), (1, 2), (1, 0)], [(7, 0)]]
        for edges in wrong:
            with self.assertRaises(BadGraph):
                make_graph(3, edges)
        with self.assertRaises(BadGraph):
            make_graph(1, [(0, 0)])

    def test_arguments_stay(self):
        edges = [(2, 1), (1, 0)]
        make_graph(3, edges)
        self.assertEqual(edges, [(2, 1), (1, 0)])

    def test_has_edge(self):
        for a in range(4):
            for b in range(4):
                self.assertIs(has_edge(SQUARE, a, b), (a, b) in SQUARE[1] or (b, a) in SQUARE[1])
        self.assertIs(has_edge((1, ()), 0, 0), False)

    def test_node_pairs(self):
        self.assertEqual(node_pairs(1), [])
        self.assertEqual(node_pairs(3), [(0, 1), (0, 2), (1, 2)])
        for nodes in range(1, 7):
            pairs = node_pairs(nodes)
            self.assertEqual(pairs, list(itertools.combinations(range(nodes), 2)))
            for place, (a, b) in enumerate(pairs):
                self.assertEqual(pair_place(nodes, a, b), place)
                self.assertEqual(pair_place(nodes, b, a), place)

    def test_returned_lists_are_new(self):
        node_pairs(4).clear()
        self.assertEqual(len(node_pairs(4)), 6)
        ring_forms(4).reverse()
        self.assertEqual(ring_forms(4), [(0, 1, 2, 3), (0, 1, 3, 2), (0, 2, 1, 3)])

    def test_edge_table(self):
        self.assertEqual(edge_table(SQUARE), (1, 0, 1, 1, 0, 1))
        self.assertEqual(edge_table((1, ())), ())
        self.assertEqual(edge_table((2, ())), (0,))
        self.assertEqual(edge_table((3, ((1, 2),))), (0, 0, 1))

    def test_relabel(self):
        self.assertEqual(relabel((3, ((0, 1),)), (2, 0, 1)), (3, ((0, 2),)))
        self.assertEqual(relabel((1, ()), (0,)), (1, ()))
        for row in itertools.permutations(range(4)):
            moved = relabel(SQUARE, row)
            self.assertEqual(moved[1], tuple(sorted(moved[1])))
            for a, b in itertools.combinations(range(4), 2):
                self.assertEqual(has_edge(moved, row[a], row[b]), has_edge(SQUARE, a, b))
        for row in ((0, 1, 2), (0, 1, 2, 3, 4), (0, 0, 1, 2), (1, 2, 3, 4), ()):
            with self.assertRaises(BadPermutation):
                relabel(SQUARE, row)


class RingTest(unittest.TestCase):
    def readings(self, form):
        """All readings of a ring: from each entry and in both directions."""
        turned = [form[k:] + form[:k] for k in range(len(form))]
        return turned + [row[::-1] for row in turned]

    def test_forms(self):
        for size, many in ((3, 1), (4, 3), (5, 12), (6, 60)):
            forms = ring_forms(size)
            self.assertEqual(len(forms), many)
            self.assertEqual(forms, sorted(forms))
            self.assertIsInstance(forms, list)
            met = []
            for form in forms:
                self.assertEqual(form[0], 0)
                self.assertLess(form[1], form[-1])
                for row in self.readings(form):
                    self.assertEqual(ring_form(row), form)
                    self.assertIs(is_ring_form(row, size), row == form)
                    met.append(row)
            self.assertEqual(sorted(met), list(itertools.permutations(range(size))))

    def test_edges(self):
        self.assertEqual(ring_edges((2, 0, 1)), ((0, 1), (0, 2), (1, 2)))
        self.assertEqual(ring_edges((0, 2, 1, 3)), ((0, 2), (0, 3), (1, 2), (1, 3)))
        for row in itertools.permutations(range(5)):
            joined = {frozenset((row[k - 1], row[k])) for k in range(5)}
            self.assertEqual({frozenset(edge) for edge in ring_edges(row)}, joined)
            self.assertEqual(ring_edges(row), tuple(sorted(tuple(sorted(edge)) for edge in joined)))

    def test_no_rings(self):
        for row in ((), (0,), (0, 1), (1, 0), tuple(range(7)), (0, 1, 1), (1, 2, 3), (0, 1, 2, 4)):
            for function in (ring_form, ring_edges):
                with self.assertRaises(BadPermutation):
                    function(row)
            for size in range(-1, 9):
                self.assertIs(is_ring_form(row, size), False)

    def test_form_of_another_size(self):
        self.assertIs(is_ring_form((0, 1, 2), 3), True)
        for size in (2, 4, 6, 7):
            self.assertIs(is_ring_form((0, 1, 2), size), False)

    def test_sizes_out_of_range(self):
        for size in (2, 7, 0, -1):
            with self.assertRaises(BadPermutation):
                ring_forms(size)


if __name__ == "__main__":
    unittest.main()

"""Tests of cornerturn.outs."""

import unittest
from itertools import product

from cornerturn.outs import is_way_out, way_out
from cornerturn.ranks import all_ranks, turns_needed
from cornerturn.webs import Web
from rules import OneGuard, is_way_out_by_the_rules
from samples import (LETTERS, Mixed, all_webs, any_values, can_be_taken_apart, full_web, long_row, looks, no_names,
                     opposite, ring_of, ring_web, row_web, some_webs, standings_of, web_of_parts)


def large_webs():
    yield from some_webs(12, 30)
    yield from (long_row(12), ring_of(12), full_web(12), Web(list(LETTERS)), opposite(ring_of(12)))
    yield from (web_of_parts(5, 4, 2, 1), web_of_parts(6, 6), web_of_parts(3, 3, 3, 3), web_of_parts(2, 2, 2, 2, 2, 2))


def without_key(value, key):
    return {other: value[other] for other in value if other != key}


class Examples(unittest.TestCase):
    def test_examples_of_the_document(self):
        row, ring = row_web(), ring_web()
        self.assertIs(way_out(row), None)
        self.assertIs(is_way_out(ring, way_out(ring)), True)
        self.assertIs(is_way_out(ring, {}), False)
        self.assertIs(is_way_out(row, {("b", "a"): "a"}), False)


class WayOut(unittest.TestCase):
    def assert_way_out(self, web):
        value = way_out(web)
        if turns_needed(web) is not None:
            self.assertIs(value, None)
            return
        self.assertIs(value.__class__, dict)
        for key in value:
            self.assertIn(key, standings_of(web))
        self.assertTrue(is_way_out_by_the_rules(OneGuard(web), value))
        self.assertIs(is_way_out(web, value), True)

    def test_small_webs(self):
        for many in (1, 2, 3, 4):
            for web in all_webs(many):
                self.assert_way_out(web)

    def test_larger_webs(self):
        for many in (5, 6, 8, 10):
            for web in some_webs(many, 40):
                self.assert_way_out(web)
        for web in large_webs():
            self.assert_way_out(web)

    def test_there_is_one_exactly_if_one_guard_is_not_enough(self):
        for web in [*all_webs(4), *some_webs(9, 60), *large_webs()]:
            self.assertIs(way_out(web) is None, can_be_taken_apart(web))

    def test_one_place(self):
        self.assertIs(way_out(Web(["x"])), None)
        for value in ({}, {("x", "x"): "x"}):
            self.assertIs(is_way_out(Web(["x"]), value), False)

    def test_two_parts(self):
        web = Web(["a", "b"])
        self.assertEqual(way_out(web), {("a", "b"): "b", ("b", "a"): "a"})


class IsWayOut(unittest.TestCase):
    def test_all_dicts_of_small_webs(self):
        for web in (Web(["a"]), Web(["a", "b"]), full_web(2), Web(["a", "b", "c"]), row_web(), full_web(3),
                    Web(["a", "b", "c"], [("a", "b")])):
            standings = standings_of(web)
            for places in product([None, *web.places], repeat=len(standings)):
                value = {key: place for key, place in zip(standings, places) if place is not None}
                self.assertIs(is_way_out(web, value), is_way_out_by_the_rules(OneGuard(web), value))

    def test_changed_ways_out(self):
        for web in [ring_web(), ring_of(5), Web(["a", "b", "c"]), web_of_parts(4, 2), web_of_parts(3, 2, 1),
                    ring_of(12), *some_webs(6, 20)]:
            value = way_out(web)
            if value is None:
                continue
            for key in standings_of(web):
                less = without_key(value, key)
                self.assertIs(is_way_out(web, less), is_way_out_by_the_rules(OneGuard(web), less))
                for place in web.places:
                    changed = {**value, key: place}
                    self.assertIs(is_way_out(web, changed), is_way_out_by_the_rules(OneGuard(web), changed))
            for key in value:
                for wrong in any_values() + no_names():
                    self.assertIs(is_way_out(web, {**value, key: wrong}), False)

    def test_mixed_ways_out(self):
        mixed = Mixed()
        counts = {True: 0, False: 0}
        for web in [*some_webs(4, 40), *some_webs(5, 40), *some_webs(6, 40), web_of_parts(4, 1), web_of_parts(2, 1, 1)]:
            ranks = all_ranks(web)
            for _ in range(20):
                value = {}
                for guard, runner in standings_of(web):
                    safe = [place for place in web.sees(runner) if ranks[guard, place] is None]
                    if safe and mixed.below(60):
                        value[guard, runner] = mixed.of(safe)
                expected = is_way_out_by_the_rules(OneGuard(web), value)
                self.assertIs(is_way_out(web, value), expected)
                counts[expected] += 1
        self.assertGreater(min(counts.values()), 100)

    def test_each_entry_counts_though_it_never_comes_up(self):
        web = web_of_parts(4, 1)
        # The runner begins in the part where the guard is not, and stays there: less is a way out already.
        value = {key: place for key, place in way_out(web).items() if "e" not in key}
        value = {**value, ("e", "a"): "a", **{(guard, "e"): "e" for guard in "abcd"}}
        less = {key: value[key] for key in value if key[0] == "e" or key[1] == "e"}
        self.assertEqual([is_way_out(web, value), is_way_out(web, less)], [True, True])
        self.assertIs(is_way_out(web, {**less, ("a", "c"): "c"}), False)
        self.assertIs(is_way_out(web, {**less, ("a", "b"): "b"}), False)
        self.assertIs(is_way_out(web, {**less, ("e", "b"): "b"}), True)
        self.assertIs(is_way_out(web, {**less, ("e", "b"): "d"}), False)

    def test_wherever_the_guard_begins(self):
        web = web_of_parts(2, 1)
        part = {("a", "c"): "c", ("b", "c"): "c"}
        self.assertIs(is_way_out(web, part), False)
        self.assertIs(is_way_out(web, {**part, ("c", "a"): "a"}), True)
        self.assertIs(is_way_out(web, {("c", "a"): "a"}), False)

    def test_other_keys(self):
        ring = ring_web()
        value = way_out(ring)
        for key in (None, True, 0, "", "ac", "a", (), ("a",), ("a", "a"), ("c", "c"), ("a", "q"), ("q", "a"),
                    ("a", None), (None, "a"), (True, False), (0, 1), ("a", ("c",)), (("a", "c"), "c"), ("a", "c", "a"),
                    (("a", "c"),)):
            for place in ["a", "c", *any_values()]:
                self.assertIs(is_way_out(ring, {**value, key: place}), False)
                self.assertIs(is_way_out(ring, {**without_key(value, ("a", "c")), key: place}), False)
                self.assertIs(is_way_out(ring, {key: place}), False)

    def test_any_value(self):
        value = way_out(ring_web())
        others = [list(value), list(value.items()), tuple(value.items()), [value], (value,), all_ranks(ring_web())]
        for wrong in any_values() + no_names() + others:
            for web in (ring_web(), row_web(), Web(["a"]), Web(["a", "b"])):
                with self.subTest(repr(wrong)):
                    self.assertIs(is_way_out(web, wrong), False)

    def test_webs_for_which_one_guard_is_enough(self):
        for web in (row_web(), full_web(4), long_row(12), Web(["a"])):
            self.assertIs(is_way_out(web, {}), False)
            self.assertIs(is_way_out(web, {(guard, runner): runner for guard, runner in standings_of(web)}), False)
            self.assertIs(is_way_out(web, way_out(ring_web())), False)


class Unchanged(unittest.TestCase):
    def test_results_are_new_and_the_web_stays(self):
        for web in (ring_web(), web_of_parts(6, 6), Web(["a", "b"])):
            before, value = looks(web), way_out(web)
            way_out(web).clear()
            way_out(web)["q"] = "q"
            self.assertEqual(way_out(web), value)
            self.assertEqual([is_way_out(web, value), is_way_out(web, value)], [True, True])
            self.assertEqual(looks(web), before)

    def test_arguments_stay(self):
        ring = ring_web()
        value = way_out(ring)
        is_way_out(ring, value)
        self.assertEqual((value, looks(ring)), (way_out(ring_web()), looks(ring_web())))
        for value in any_values():
            before = repr(value)
            is_way_out(ring, value)
            is_way_out(ring, {**way_out(ring), ("a", "b"): value})
            self.assertEqual(repr(value), before)

    def test_arguments_by_name(self):
        ring = ring_web()
        self.assertEqual(way_out(web=ring), way_out(ring))
        self.assertIs(is_way_out(value=way_out(ring), web=ring), True)


if __name__ == "__main__":
    unittest.main()

"""Tests of cornerturn.runners."""

import unittest
from itertools import product

from cornerturn.errors import BadPlan
from cornerturn.ranks import turns_needed
from cornerturn.runners import a_runner, lasts
from cornerturn.webs import Web
from samples import (LETTERS, Mixed, all_webs, any_values, full_web, long_row, looks, no_names, opposite, ring_of,
                     ring_web, row_web, some_webs, standings_of, web_of_parts)


def lasts_by_the_rules(web, starts, moves):
    """Return for how many turns a runner's plan lasts, trying each way of the guard up to a number of turns."""
    known = {}

    def is_caught(guard, runner, turns):
        if guard == runner:
            return True
        if turns == 0:
            return False
        if (guard, runner, turns) not in known:
            known[guard, runner, turns] = any(
                place == runner or is_caught(place, moves[place, runner], turns - 1) for place in web.sees(guard))
        return known[guard, runner, turns]

    for turns in range(len(web.places) ** 2 + 1):
        if any(is_caught(guard, starts[guard], turns) for guard in web.places):
            return turns
    return None


def all_plans(web):
    standings = standings_of(web)
    for begun in product(web.places, repeat=len(web.places)):
        for places in product(*[web.sees(runner) for _, runner in standings]):
            yield dict(zip(web.places, begun)), dict(zip(standings, places))


def mixed_plan(mixed, web):
    return ({guard: mixed.of(web.places) for guard in web.places},
            {(guard, runner): mixed.of(web.sees(runner)) for guard, runner in standings_of(web)})


class Examples(unittest.TestCase):
    def test_examples_of_the_document(self):
        row, ring = row_web(), ring_web()
        self.assertEqual([lasts(row, a_runner(row)), lasts(ring, a_runner(ring))], [1, None])
        plan = ({"a": "b", "b": "b"}, {("a", "b"): "b", ("b", "a"): "a"})
        self.assertEqual(lasts(Web(["a", "b"]), plan), 0)
        with self.assertRaises(BadPlan) as caught:
            lasts(row, ({"a": "c"}, {}))
        self.assertEqual(caught.exception.value, ({"a": "c"}, {}))


class ARunner(unittest.TestCase):
    def assert_runner(self, web):
        plan = a_runner(web)
        self.assertEqual((plan.__class__, len(plan)), (tuple, 2))
        starts, moves = plan
        self.assertEqual([starts.__class__, moves.__class__], [dict, dict])
        self.assertEqual(set(starts), set(web.places))
        self.assertEqual(set(moves), set(standings_of(web)))
        for place in starts.values():
            self.assertIn(place, web.places)
        for (_, runner), place in moves.items():
            self.assertIn(place, web.sees(runner))
        self.assertEqual(lasts_by_the_rules(web, starts, moves), turns_needed(web))
        self.assertEqual(lasts(web, plan), turns_needed(web))

    def test_small_webs(self):
        for many in (1, 2, 3, 4):
            for web in all_webs(many):
                self.assert_runner(web)

    def test_larger_webs(self):
        for many in (5, 6, 8):
            for web in some_webs(many, 30):
                self.assert_runner(web)

    def test_twelve_places(self):
        for web in [*some_webs(12, 10), long_row(12), full_web(12), ring_of(12), Web(list(LETTERS)),
                    opposite(ring_of(12)), web_of_parts(5, 4, 2, 1), web_of_parts(3, 3, 3, 3)]:
            self.assert_runner(web)
        self.assertEqual([lasts(web, a_runner(web)) for web in (long_row(12), full_web(12), ring_of(12))], [6, 1, None])

    def test_one_place(self):
        self.assertEqual(a_runner(Web(["x"])), ({"x": "x"}, {}))
        self.assertEqual(lasts(Web(["x"]), ({"x": "x"}, {})), 0)

    def test_no_plan_lasts_longer(self):
        for web in (row_web(), full_web(2), full_web(3), Web(["a"])):
            best = lasts(web, a_runner(web))
            for plan in all_plans(web):
                self.assertLessEqual(lasts(web, plan), best)


class Lasts(unittest.TestCase):
    def test_all_plans_of_small_webs(self):
        for web in (Web(["a"]), Web(["a", "b"]), full_web(2), row_web(), Web(["a", "b", "c"]), web_of_parts(2, 1)):
            for starts, moves in all_plans(web):
                self.assertEqual(lasts(web, (starts, moves)), lasts_by_the_rules(web, starts, moves))

    def test_mixed_plans(self):
        mixed = Mixed()
        found = {}
        for web in [*some_webs(4, 40), *some_webs(5, 40), *some_webs(7, 20), long_row(7), ring_of(8)]:
            for _ in range(10):
                plan = mixed_plan(mixed, web)
                turns = lasts_by_the_rules(web, *plan)
                self.assertEqual(lasts(web, plan), turns)
                found[turns] = True
        self.assertTrue({0, 1, 2}.issubset(found))

    def test_good_plans_with_changes(self):
        mixed = Mixed()
        found = {}
        for web in [long_row(8), long_row(5), ring_of(6), web_of_parts(3, 2), *some_webs(6, 20)]:
            starts, moves = a_runner(web)
            for (guard, runner) in standings_of(web):
                changed = {**moves, (guard, runner): mixed.of(web.sees(runner))}
                begun = {**starts, guard: runner}
                for plan in ((starts, changed), (begun, moves), (begun, changed)):
                    turns = lasts_by_the_rules(web, *plan)
                    self.assertEqual(lasts(web, plan), turns)
                    found[turns] = True
        self.assertTrue({1, 2, 3, 4, None}.issubset(found))

    def test_a_runner_who_begins_where_the_guard_is(self):
        for web in (row_web(), ring_web(), Web(list(LETTERS))):
            starts, moves = a_runner(web)
            for guard in web.places:
                self.assertEqual(lasts(web, ({**starts, guard: guard}, moves)), 0)

    def test_a_runner_who_runs_into_the_guard(self):
        ring = ring_web()
        starts = {"a": "c", "b": "d", "c": "a", "d": "b"}
        moves = a_runner(ring)[1]
        self.assertEqual(lasts(ring, (starts, moves)), None)
        self.assertEqual(lasts(ring, (starts, {**moves, ("b", "c"): "b"})), 1)
        self.assertEqual(lasts(ring, (starts, {**moves, ("a", "c"): "b"})), 2)

    def test_the_sequence_of_entries_does_not_count(self):
        row = row_web()
        starts, moves = a_runner(row)
        turned = dict(reversed(list(starts.items()))), dict(reversed(list(moves.items())))
        self.assertEqual(lasts(row, turned), 1)


class BadPlans(unittest.TestCase):
    def assert_bad(self, web, value):
        with self.assertRaises(BadPlan) as caught:
            lasts(web, value)
        self.assertIs(caught.exception.__class__, BadPlan)
        self.assertIs(caught.exception.value, value)

    def test_changed_plans(self):
        for web in (row_web(), ring_web(), Web(["a", "b"]), Web(["a"]), full_web(3)):
            starts, moves = a_runner(web)
            keys = [None, True, 0, "", "q", "ab", (), ("a",), ("a", "b", "c"), ("a", "a"), ("a", "q"), (0, 1),
                    ("a", None)]
            for key in keys:
                self.assert_bad(web, ({**starts, key: "a"}, moves))
                self.assert_bad(web, (starts, {**moves, key: "a"}))
            for place in starts:
                less = {key: starts[key] for key in starts if key != place}
                self.assert_bad(web, (less, moves))
                for key in keys:
                    self.assert_bad(web, ({**less, key: "a"}, moves))
                for wrong in any_values() + no_names():
                    self.assert_bad(web, ({**starts, place: wrong}, moves))
            for standing in moves:
                less = {key: moves[key] for key in moves if key != standing}
                self.assert_bad(web, (starts, less))
                for key in keys:
                    self.assert_bad(web, (starts, {**less, key: "a"}))
                for wrong in any_values() + no_names():
                    self.assert_bad(web, (starts, {**moves, standing: wrong}))
                for place in web.places:
                    if place not in web.sees(standing[1]):
                        self.assert_bad(web, (starts, {**moves, standing: place}))

    def test_moves_of_the_runner_not_of_the_guard(self):
        row = row_web()
        starts, moves = a_runner(row)
        self.assert_bad(row, (starts, {**moves, ("b", "c"): "a"}))
        self.assertEqual(lasts(row, (starts, {**moves, ("c", "b"): "a"})), 1)

    def test_the_plan_of_another_web(self):
        for web in (row_web(), Web(["a"]), Web(["a", "b"]), Web(list("abce"))):
            self.assert_bad(web, a_runner(ring_web()))
        self.assert_bad(ring_web(), a_runner(row_web()))

    def test_any_value(self):
        for web in (row_web(), Web(["a"])):
            starts, moves = a_runner(web)
            others = [
                (), (starts,), (starts, moves, moves), [starts, moves], (moves, starts), (starts, None), (None, moves),
                (starts, list(moves.items())), (list(starts), moves), ({}, {}), ("a", {}), (web, web),
                ((starts, moves),), [(starts, moves)], starts, moves, (starts, starts),
            ]
            for value in any_values() + no_names() + others:
                if value != (starts, moves):
                    with self.subTest(repr(value)):
                        self.assert_bad(web, value)
            for wrong in any_values() + no_names():
                if wrong != {} or moves:
                    self.assert_bad(web, (starts, wrong))
                self.assert_bad(web, (wrong, moves))


class Unchanged(unittest.TestCase):
    def test_results_are_new_and_the_web_stays(self):
        for web in (row_web(), ring_web(), Web(["a"]), long_row(12)):
            before, plan = looks(web), a_runner(web)
            a_runner(web)[0].clear()
            a_runner(web)[1].clear()
            a_runner(web)[1]["q"] = "q"
            self.assertEqual(a_runner(web), plan)
            self.assertEqual([lasts(web, plan), lasts(web, plan)], [turns_needed(web)] * 2)
            self.assertEqual(looks(web), before)

    def test_arguments_stay(self):
        row = row_web()
        plan = a_runner(row)
        lasts(row, plan)
        self.assertEqual((plan, looks(row)), (a_runner(row_web()), looks(row_web())))
        for value in any_values():
            before = repr(value)
            for wrong in (value, (value, {}), (plan[0], value), (plan[0], {**plan[1], ("a", "b"): value})):
                with self.assertRaises(BadPlan):
                    lasts(row, wrong)
            self.assertEqual(repr(value), before)

    def test_arguments_by_name(self):
        row = row_web()
        self.assertEqual(a_runner(web=row), a_runner(row))
        self.assertEqual(lasts(value=a_runner(row), web=row), 1)


if __name__ == "__main__":
    unittest.main()

"""Tests of cornerturn.plans."""

import unittest
from itertools import product

from cornerturn.plans import a_plan, plan_turns
from cornerturn.ranks import all_ranks, best_starts, turns_needed
from cornerturn.webs import Web
from rules import OneGuard, plan_turns_by_the_rules, standings_that_come_up
from samples import (LETTERS, Mixed, all_webs, any_values, full_web, long_row, looks, no_names, ring_of, ring_web,
                     row_web, some_webs, standings_of, web_of_parts)


class Examples(unittest.TestCase):
    def test_examples_of_the_document(self):
        row, ring = row_web(), ring_web()
        self.assertEqual([plan_turns(row, a_plan(row)), a_plan(ring)], [1, None])
        self.assertEqual(plan_turns(row, ("b", {("b", "a"): "a", ("b", "c"): "c"})), 1)
        self.assertIs(plan_turns(row, ("b", {("b", "a"): "a"})), None)
        longer = ("a", {("a", "b"): "b", ("a", "c"): "b", ("b", "c"): "c", ("b", "a"): "a"})
        self.assertEqual(plan_turns(row, longer), 2)
        self.assertIs(plan_turns(row, None), None)


class APlan(unittest.TestCase):
    def assert_plan(self, web):
        plan = a_plan(web)
        turns = turns_needed(web)
        if turns is None:
            self.assertIs(plan, None)
            return
        self.assertEqual((plan.__class__, len(plan)), (tuple, 2))
        start, moves = plan
        self.assertIn(start, best_starts(web))
        self.assertIs(moves.__class__, dict)
        for standing, place in moves.items():
            self.assertIn(standing, all_ranks(web))
            self.assertIn(place, web.sees(standing[0]))
        self.assertEqual(plan_turns_by_the_rules(OneGuard(web), start, moves), turns)
        self.assertEqual(plan_turns(web, plan), turns)
        self.assertIs(plan_turns(web, plan).__class__, int)

    def test_all_small_webs(self):
        for many in (1, 2, 3, 4):
            for web in all_webs(many):
                self.assert_plan(web)

    def test_some_larger_webs(self):
        for many in (5, 6, 7, 8, 10, 12):
            for web in some_webs(many, 40):
                self.assert_plan(web)

    def test_rows_rings_and_full_webs(self):
        for many in range(1, 13):
            self.assert_plan(long_row(many))
            self.assert_plan(full_web(many))
            self.assert_plan(Web(list(LETTERS[:many])))
        for many in range(3, 13):
            self.assert_plan(ring_of(many))

    def test_twelve_places(self):
        self.assertEqual(plan_turns(long_row(12), a_plan(long_row(12))), 6)
        self.assertEqual(plan_turns(full_web(12), a_plan(full_web(12))), 1)
        for web in (ring_of(12), Web(list(LETTERS)), web_of_parts(3, 4, 5)):
            self.assertIs(a_plan(web), None)

    def test_one_place(self):
        self.assertEqual(a_plan(Web(["x"]))[0], "x")
        self.assertEqual([plan_turns(Web(["x"]), a_plan(Web(["x"]))), plan_turns(Web(["x"]), ("x", {}))], [0, 0])


class PlanTurns(unittest.TestCase):
    def test_all_plans_of_rows(self):
        for web in (row_web(), Web(["a", "b", "c"], [("a", "b")]), full_web(2), Web(["a", "b"]), Web(["a"])):
            standings = standings_of(web)
            for places in product(*[[*web.sees(guard), None] for guard, _ in standings]):
                moves = {standing: place for standing, place in zip(standings, places) if place is not None}
                for start in web.places:
                    expected = plan_turns_by_the_rules(OneGuard(web), start, moves)
                    self.assertEqual(plan_turns(web, (start, moves)), expected)

    def test_mixed_plans(self):
        mixed = Mixed()
        good = 0
        for web in [*some_webs(4, 60), *some_webs(5, 60), *some_webs(7, 40)]:
            for _ in range(20):
                moves = {}
                for guard, runner in standings_of(web):
                    seen = web.sees(guard)
                    moves[guard, runner] = runner if runner in seen and mixed.below(9) else mixed.of(seen)
                start = mixed.of(web.places)
                expected = plan_turns_by_the_rules(OneGuard(web), start, moves)
                self.assertEqual(plan_turns(web, (start, moves)), expected)
                good += expected is not None
        self.assertGreater(good, 100)

    def test_good_plans_with_changes(self):
        mixed = Mixed()
        for web in [*some_webs(6, 40), long_row(7)]:
            plan = a_plan(web)
            if plan is None:
                continue
            for start in web.places:
                expected = plan_turns_by_the_rules(OneGuard(web), start, plan[1])
                self.assertEqual(plan_turns(web, (start, plan[1])), expected)
            for standing in plan[1]:
                for place in web.sees(standing[0]):
                    moves = {**plan[1], standing: place, mixed.of(standings_of(web)): mixed.of(web.places)}
                    expected = plan_turns_by_the_rules(OneGuard(web), plan[0], moves)
                    self.assertEqual(plan_turns(web, (plan[0], moves)), expected)

    def test_a_plan_that_goes_in_circles(self):
        row = long_row(4)
        moves = {**a_plan(row)[1], ("b", "d"): "b"}
        self.assertIs(plan_turns(row, ("b", moves)), None)
        moves = {**a_plan(row)[1], ("a", "c"): "b", ("a", "d"): "b", ("b", "d"): "a"}
        self.assertIs(plan_turns(row, ("a", moves)), None)
        waiting = {(guard, runner): guard for guard, runner in standings_of(ring_web())}
        self.assertIs(plan_turns(ring_web(), ("a", waiting)), None)

    def test_a_long_plan(self):
        # The guard walks to the far end first, which is good, though not as short as need be.
        row = long_row(12)
        moves = {}
        for guard, runner in standings_of(row):
            step = 1 if LETTERS.index(runner) > LETTERS.index(guard) else -1
            moves[guard, runner] = LETTERS[LETTERS.index(guard) + step]
        self.assertEqual([plan_turns(row, (start, moves)) for start in LETTERS],
                         [11, 10, 9, 8, 7, 6, 6, 7, 8, 9, 10, 11])

    def test_the_runner_may_run_into_the_guard(self):
        # From b the runner could only run into the guard, or stay; staying is what counts.
        web = Web(["a", "b"], [("a", "b")])
        self.assertEqual(plan_turns(web, ("a", {("a", "b"): "b"})), 1)
        self.assertIs(plan_turns(web, ("a", {("a", "b"): "a"})), None)

    def test_entries_that_do_not_come_up_count_for_nothing(self):
        row = row_web()
        for wrong in any_values() + no_names() + ["c", "b"]:
            further = {("a", "c"): wrong, ("b", "b"): wrong, ("c", "a"): wrong, ("q", "a"): wrong, ("a",): wrong,
                       None: wrong, True: wrong, 0: wrong, "ba": wrong, ("b", "a", "c"): wrong, ((), ("b",)): wrong}
            moves = {("b", "a"): "a", **further, ("b", "c"): "c"}
            self.assertEqual(plan_turns(row, ("b", moves)), 1)
            self.assertEqual(plan_turns(Web(["b"]), ("b", further)), 0)

    def test_changed_entries(self):
        for web in (row_web(), long_row(5), full_web(4), long_row(12)):
            start, moves = a_plan(web)
            coming = standings_that_come_up(OneGuard(web), (start, moves))
            for standing in coming:
                less = {key: moves[key] for key in moves if key != standing}
                self.assertIs(plan_turns(web, (start, less)), None)
                for wrong in any_values() + no_names():
                    self.assertIs(plan_turns(web, (start, {**moves, standing: wrong})), None)
                for place in web.places:
                    if place not in web.sees(standing[0]):
                        self.assertIs(plan_turns(web, (start, {**moves, standing: place})), None)
            only = {standing: moves[standing] for standing in coming}
            self.assertEqual(plan_turns(web, (start, only)), turns_needed(web))

    def test_any_value(self):
        row = row_web()
        start, moves = a_plan(row)
        values = any_values() + no_names() + [
            (), (start,), (start, moves, moves), [start, moves], (moves, start), {start: moves}, (start, None),
            (start, list(moves.items())), (start, tuple(moves)), (start, [moves]), (start, {}), ("q", moves),
            (start, row), ("a", "b"), (row, moves), ((start, moves),), [(start, moves)], (start + start, moves),
            (start, start),
        ]
        for value in values:
            for web in (row, ring_web(), Web(["x", "y"])):
                with self.subTest(repr(value)):
                    self.assertIs(plan_turns(web, value), None)
        for wrong in any_values() + no_names():
            self.assertIs(plan_turns(row, (wrong, moves)), None)
            self.assertIs(plan_turns(Web(["x"]), (wrong, {})), None)
            if not isinstance(wrong, dict):
                self.assertIs(plan_turns(row, (start, wrong)), None)
                self.assertIs(plan_turns(Web(["x"]), ("x", wrong)), None)

    def test_webs_for_which_one_guard_is_not_enough(self):
        for web in (ring_web(), web_of_parts(2, 1), Web(["a", "b"])):
            for place in web.places:
                moves = {(guard, runner): runner if runner in web.sees(guard) else web.sees(guard)[0]
                         for guard, runner in standings_of(web)}
                self.assertIs(plan_turns(web, (place, moves)), None)


class Unchanged(unittest.TestCase):
    def test_results_are_new_and_the_web_stays(self):
        for web in (row_web(), long_row(12), Web(["a"])):
            before = looks(web)
            start, moves = a_plan(web)
            a_plan(web)[1].clear()
            a_plan(web)[1]["q"] = "q"
            self.assertEqual(a_plan(web), (start, moves))
            self.assertEqual(plan_turns(web, (start, moves)), turns_needed(web))
            self.assertEqual(looks(web), before)

    def test_arguments_stay(self):
        row, moves = row_web(), {("b", "a"): "a", ("b", "c"): "c", None: [1]}
        value = ("b", moves)
        self.assertEqual([plan_turns(row, value), plan_turns(row, value)], [1, 1])
        self.assertEqual((looks(row), value), (looks(row_web()), ("b", {("b", "a"): "a", ("b", "c"): "c", None: [1]})))
        self.assertIs(value[1], moves)
        for value in any_values():
            before = repr(value)
            plan_turns(row, value)
            plan_turns(row, ("b", value))
            self.assertEqual(repr(value), before)

    def test_arguments_by_name(self):
        row = row_web()
        self.assertEqual(a_plan(web=row), a_plan(row))
        self.assertEqual(plan_turns(value=("b", {("b", "a"): "a", ("b", "c"): "c"}), web=row), 1)


if __name__ == "__main__":
    unittest.main()

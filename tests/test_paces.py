"""Tests of cornerturn.paces."""

import unittest
from itertools import product
from unittest import mock

from cornerturn import games
from cornerturn.errors import BadTie, NoPlace, WebError
from cornerturn.outs import is_way_out, way_out
from cornerturn.paces import (BadPace, is_pace_way_out, least_pace, pace_plan, pace_plan_turns, pace_rank, pace_turns,
                              pace_way_out, reach, runs)
from cornerturn.plans import a_plan, plan_turns
from cornerturn.ranks import all_ranks, rank_of, turns_needed
from cornerturn.webs import Web
from rules import (Paced, free_standings, is_way_out_by_the_rules, plan_turns_by_the_rules, ranks_by_the_rules,
                   standings_that_come_up, starts_by_the_rules)
from samples import (LETTERS, Mixed, all_webs, any_values, full_web, long_row, looks, no_names, opposite, ring_of,
                     ring_web, row_web, some_webs, standings_of, turned_webs, web_of_parts)

ALL = range(1, 13)
SOME = [(1, 1), (1, 2), (2, 1), (2, 2), (1, 3), (3, 1), (2, 3), (3, 2), (2, 12), (12, 1), (12, 12), (1, 12)]


def bad_paces():
    return [0, 13, -1, -12, 10 ** 59, True, False, None, "1", "", [1], (1,), {}, {1: 1}, ring_web(), BadTie(1),
            *any_values()[3:]]


def large_webs():
    return [long_row(8), ring_of(8), web_of_parts(5, 3), opposite(ring_of(7)), *some_webs(6, 8), *some_webs(8, 5),
            *turned_webs()]


def largest_webs():
    return [long_row(12), ring_of(12), full_web(12), Web(list(LETTERS)), web_of_parts(5, 4, 2, 1), *some_webs(12, 5)]


def games_of(webs, paces):
    return [(web, pace, speed) for web in webs for pace, speed in paces]


class Examples(unittest.TestCase):
    def test_examples_of_the_document(self):
        row, ring, apart = row_web(), ring_web(), Web(["a", "b", "c"])
        self.assertEqual([reach(row, "a", 1), reach(row, "a", 2)], [["a", "b"], ["a", "b", "c"]])
        self.assertEqual([runs(ring, "a", "c", 2), runs(row, "b", "a", 2), runs(row, "a", "a", 3)],
                         [["b", "c", "d"], ["a"], []])
        self.assertEqual([pace_rank(ring, "a", "c", 1, 1), pace_rank(ring, "a", "c", 2, 1)], [None, 1])
        self.assertEqual([pace_turns(ring, 2, 12), least_pace(ring, 1), least_pace(apart, 1)], [1, 2, None])
        self.assertEqual([pace_plan_turns(ring, 2, 1, pace_plan(ring, 2, 1)), pace_plan(ring, 1, 1)], [1, None])
        self.assertIs(is_pace_way_out(ring, 1, 1, pace_way_out(ring, 1, 1)), True)
        with self.assertRaises(BadPace) as caught:
            reach(row, "b", 0)
        self.assertEqual(caught.exception.value, 0)


class Errors(unittest.TestCase):
    def assert_raises(self, error, value, function, *arguments):
        with self.assertRaises(error) as caught:
            function(*arguments)
        self.assertIs(caught.exception.__class__, error)
        self.assertIs(caught.exception.value, value)

    def test_the_error(self):
        self.assertEqual(BadPace.__bases__, (WebError,))
        for value in any_values():
            self.assertIs(BadPace(value).value, value)
            self.assertIs(BadPace(value=value).value, value)
            self.assertEqual(vars(BadPace(value)), {"value": value})
        for arguments in ((), (1, 2)):
            with self.assertRaises(TypeError):
                BadPace(*arguments)

    def test_places_of_all_kinds(self):
        ring = ring_web()
        for wrong in [*any_values(), *no_names(), ("a", "c"), ["a"]]:
            self.assert_raises(NoPlace, wrong, reach, ring, wrong, 1)
            self.assert_raises(NoPlace, wrong, runs, ring, wrong, "a", 1)
            self.assert_raises(NoPlace, wrong, runs, ring, "a", wrong, 1)
            self.assert_raises(NoPlace, wrong, pace_rank, ring, wrong, "a", 1, 1)
            self.assert_raises(NoPlace, wrong, pace_rank, ring, "a", wrong, 1, 1)

    def test_paces_and_speeds_of_all_kinds(self):
        for ring, wrong in product([ring_web(), Web(["a"])], bad_paces()):
            self.assert_raises(BadPace, wrong, reach, ring, "a", wrong)
            self.assert_raises(BadPace, wrong, runs, ring, "a", "a", wrong)
            self.assert_raises(BadPace, wrong, least_pace, ring, wrong)
            self.assert_raises(BadPace, wrong, pace_rank, ring, "a", "a", wrong, 1)
            self.assert_raises(BadPace, wrong, pace_rank, ring, "a", "a", 12, wrong)
            for function in (pace_turns, pace_plan, pace_way_out):
                self.assert_raises(BadPace, wrong, function, ring, wrong, 12)
                self.assert_raises(BadPace, wrong, function, ring, 1, wrong)
            for function in (pace_plan_turns, is_pace_way_out):
                for value in (None, {}, ("a", {})):
                    self.assert_raises(BadPace, wrong, function, ring, wrong, 1, value)
                    self.assert_raises(BadPace, wrong, function, ring, 1, wrong, value)

    def test_which_error_is_raised(self):
        ring, one, other, third, fourth = ring_web(), ["q"], ("q",), [0], {}
        self.assert_raises(NoPlace, one, reach, ring, one, third)
        self.assert_raises(NoPlace, one, runs, ring, one, other, third)
        self.assert_raises(NoPlace, other, runs, ring, "a", other, third)
        self.assert_raises(NoPlace, one, pace_rank, ring, one, other, third, fourth)
        self.assert_raises(NoPlace, other, pace_rank, ring, "a", other, third, fourth)
        self.assert_raises(BadPace, third, pace_rank, ring, "a", "b", third, fourth)
        self.assert_raises(BadPace, fourth, pace_rank, ring, "a", "b", 1, fourth)
        for function in (pace_turns, pace_plan, pace_way_out):
            self.assert_raises(BadPace, third, function, ring, third, fourth)
        for function in (pace_plan_turns, is_pace_way_out):
            self.assert_raises(BadPace, third, function, ring, third, fourth, None)


class Moves(unittest.TestCase):
    def assert_moves(self, web, pace):
        rules = Paced(web, pace, pace)
        for place in web.places:
            self.assertEqual(reach(web, place, pace), rules.ways(place))
            for runner in web.places:
                self.assertEqual(runs(web, place, runner, pace), rules.steps(place, runner))

    def test_small_webs(self):
        for web in [*all_webs(1), *all_webs(2), *all_webs(3), *all_webs(4)]:
            for pace in (1, 2, 3, 4, 12):
                self.assert_moves(web, pace)

    def test_large_webs(self):
        for web in [*large_webs(), *largest_webs()]:
            for pace in ALL:
                self.assert_moves(web, pace)

    def test_the_runner_does_not_pass_the_guard(self):
        self.assertEqual(runs(long_row(12), "c", "e", 12), list("defghijkl"))
        self.assertEqual(runs(long_row(12), "c", "e", 2), list("defg"))
        self.assertEqual(runs(ring_of(12), "a", "b", 12), list("bcdefghijkl"))
        self.assertEqual(runs(ring_of(12), "a", "b", 3), list("bcde"))
        self.assertEqual(runs(full_web(3), "b", "a", 1), ["a", "c"])
        self.assertEqual(runs(row_web(), "b", "c", 12), ["c"])

    def test_the_guard_passes_everything(self):
        self.assertEqual(reach(long_row(12), "a", 11), list(LETTERS))
        self.assertEqual(reach(long_row(12), "a", 10), list(LETTERS[:11]))
        self.assertEqual(reach(web_of_parts(2, 2), "d", 12), ["c", "d"])

    def test_both_at_one_place(self):
        for web in (Web(["a"]), row_web(), full_web(12)):
            for speed in ALL:
                self.assertEqual(runs(web, "a", "a", speed), [])


class Ranks(unittest.TestCase):
    def assert_ranks(self, web, pace, speed):
        rules = Paced(web, pace, speed)
        expected = ranks_by_the_rules(rules)
        for (guard, runner), rank in expected.items():
            found = pace_rank(web, guard, runner, pace, speed)
            self.assertEqual(found, rank)
            self.assertIn(found.__class__, (int, None.__class__))
        self.assertEqual(pace_turns(web, pace, speed), starts_by_the_rules(rules, expected)[0])

    def test_small_webs(self):
        for web in [*all_webs(1), *all_webs(2), *all_webs(3), *all_webs(4)]:
            for pace, speed in ((1, 1), (1, 2), (2, 1), (2, 2), (1, 3), (3, 12), (12, 3)):
                self.assert_ranks(web, pace, speed)

    def test_large_webs(self):
        for game in games_of(large_webs(), SOME):
            self.assert_ranks(*game)

    def test_twelve_places(self):
        for game in games_of(largest_webs(), [(1, 12), (2, 1), (5, 7), (12, 12)]):
            self.assert_ranks(*game)

    def test_pace_one_against_speed_one(self):
        for web in [*all_webs(4), *some_webs(7, 30), *some_webs(12, 10), *largest_webs()]:
            self.assertEqual(pace_turns(web, 1, 1), turns_needed(web))
            for (guard, runner), rank in all_ranks(web).items():
                self.assertEqual(pace_rank(web, guard, runner, 1, 1), rank)

    def test_paces_above_the_webs_size(self):
        for web in [*all_webs(3), ring_of(5), long_row(5), web_of_parts(3, 2)]:
            for speed in (1, 4, 5, 12):
                for pace in (5, 6, 11, 12):
                    self.assert_ranks(web, pace, speed)

    def test_known_webs(self):
        row = long_row(7)
        self.assertEqual([pace_rank(row, "a", runner, 2, 1) for runner in LETTERS[:7]], [0, 1, 1, 2, 3, 3, 3])
        self.assertEqual([pace_turns(row, 2, 1), pace_turns(row, 3, 1), pace_turns(row, 2, 12)], [2, 1, 2])
        self.assertEqual([pace_turns(ring_of(6), pace, 1) for pace in (1, 2, 3)], [None, 2, 1])
        self.assertEqual([pace_turns(ring_of(12), pace, 12) for pace in (5, 6)], [None, 1])

    def test_passing_is_not_enough(self):
        moves = {("a", "b"): "c", ("a", "c"): "c", ("c", "a"): "a", ("c", "b"): "b"}
        self.assertEqual(pace_plan_turns(row_web(), 2, 1, ("a", moves)), 2)
        self.assertEqual(pace_plan_turns(row_web(), 2, 1, ("a", {**moves, ("a", "b"): "b"})), 1)

    def test_one_place(self):
        for pace, speed in product(ALL, ALL):
            self.assertEqual(pace_rank(Web(["x"]), "x", "x", pace, speed), 0)
            self.assertEqual(pace_turns(Web(["x"]), pace, speed), 0)

    def test_ranks_are_reckoned_once(self):
        web = ring_of(8)
        with mock.patch.object(games, "rank_rounds", wraps=games.rank_rounds) as reckoned:
            for _ in range(3):
                pace_rank(web, "a", "d", 2, 3)
                pace_turns(web, 2, 3)
                pace_plan(web, 2, 3)
                pace_way_out(web, 2, 3)
            self.assertEqual(reckoned.call_count, 1)
            for _ in range(3):
                self.assertEqual(least_pace(web, 3), 4)
            self.assertEqual(reckoned.call_count, 4)
            self.assertEqual(pace_turns(web, 4, 3), 1)
            self.assertEqual(reckoned.call_count, 4)

    def test_runs_are_reckoned_once(self):
        web = ring_of(8)
        with mock.patch.object(games, "runs_of", wraps=games.runs_of) as reckoned:
            for pace in (1, 2, 3):
                pace_turns(web, pace, 3)
            self.assertEqual(reckoned.call_count, 64)


class LeastPace(unittest.TestCase):
    def assert_least(self, web, speed):
        found = least_pace(web, speed)
        enough = [pace for pace in ALL if pace_turns(web, pace, speed) is not None]
        self.assertEqual(enough, [] if found is None else list(range(found, 13)))
        if len(web.parts()) > 1:
            self.assertIs(found, None)

    def test_all_speeds(self):
        for web in [*all_webs(1), *all_webs(3), *all_webs(4), *large_webs(), *largest_webs()]:
            for speed in (1, 2, 3, 12):
                self.assert_least(web, speed)

    def test_by_the_rules(self):
        for web in [*all_webs(4), ring_of(6), long_row(6), *some_webs(6, 10)]:
            for speed in (1, 2, 5):
                ranks = [ranks_by_the_rules(Paced(web, pace, speed)) for pace in range(1, 7)]
                found = [at + 1 for at in range(6) if starts_by_the_rules(Paced(web, at + 1, speed), ranks[at])[1]]
                self.assertEqual(least_pace(web, speed), found[0] if found else None)

    def test_known_webs(self):
        self.assertEqual([least_pace(ring_of(many), 1) for many in range(3, 13)], [1, 2, 2, 2, 2, 2, 2, 2, 2, 2])
        self.assertEqual([least_pace(ring_of(many), 12) for many in range(3, 13)], [1, 2, 2, 3, 3, 4, 4, 5, 5, 6])
        self.assertEqual([least_pace(long_row(12), speed) for speed in ALL], [1] * 12)
        self.assertEqual([least_pace(Web(["x"]), 12), least_pace(Web(["x", "y"]), 1)], [1, None])


class Plans(unittest.TestCase):
    def assert_plan(self, web, pace, speed):
        rules, plan = Paced(web, pace, speed), pace_plan(web, pace, speed)
        turns, starts = starts_by_the_rules(rules, ranks_by_the_rules(rules))
        if turns is None:
            self.assertIs(plan, None)
            return
        self.assertEqual((plan.__class__, len(plan), plan[1].__class__), (tuple, 2, dict))
        self.assertIn(plan[0], starts)
        for (guard, runner), place in plan[1].items():
            self.assertIn(runner, web.places)
            self.assertIn(place, rules.ways(guard))
        self.assertEqual(plan_turns_by_the_rules(rules, *plan), turns)
        self.assertEqual(pace_plan_turns(web, pace, speed, plan), turns)

    def test_small_webs(self):
        for web in [*all_webs(1), *all_webs(2), *all_webs(3), *all_webs(4)]:
            for pace, speed in ((1, 1), (1, 2), (2, 1), (2, 2), (12, 12)):
                self.assert_plan(web, pace, speed)

    def test_large_webs(self):
        for game in games_of(large_webs(), SOME):
            self.assert_plan(*game)
        for game in games_of(largest_webs(), [(1, 12), (2, 1), (5, 7)]):
            self.assert_plan(*game)

    def test_pace_one_against_speed_one(self):
        for web in [*all_webs(4), *some_webs(7, 30), long_row(12)]:
            plan = a_plan(web)
            if plan is not None:
                self.assertEqual(pace_plan_turns(web, 1, 1, plan), plan_turns(web, plan))
                self.assertEqual(plan_turns(web, pace_plan(web, 1, 1)), turns_needed(web))

    def test_mixed_plans(self):
        mixed = Mixed()
        good = 0
        for web in [*some_webs(4, 40), *some_webs(5, 30), *some_webs(7, 20), ring_of(6), long_row(6)]:
            for _ in range(12):
                pace, speed = 1 + mixed.below(3), 1 + mixed.below(3)
                rules = Paced(web, pace, speed)
                moves = {}
                for guard, runner in free_standings(rules):
                    ways = rules.ways(guard)
                    moves[guard, runner] = runner if runner in ways and mixed.below(9) else mixed.of(ways)
                start = mixed.of(web.places)
                expected = plan_turns_by_the_rules(rules, start, moves)
                self.assertEqual(pace_plan_turns(web, pace, speed, (start, moves)), expected)
                good += expected is not None
        self.assertGreater(good, 100)

    def test_entries_changed_and_left_out(self):
        for web, pace, speed in ((long_row(7), 2, 1), (ring_of(6), 2, 1), (ring_of(6), 3, 12), (long_row(12), 1, 12)):
            rules, (start, moves) = Paced(web, pace, speed), pace_plan(web, pace, speed)
            coming = standings_that_come_up(rules, (start, moves))
            for standing in coming:
                less = {key: moves[key] for key in moves if key != standing}
                self.assertIs(pace_plan_turns(web, pace, speed, (start, less)), None)
                for wrong in [*any_values(), *no_names()]:
                    self.assertIs(pace_plan_turns(web, pace, speed, (start, {**moves, standing: wrong})), None)
                for place in web.places:
                    changed = {**moves, standing: place}
                    expected = plan_turns_by_the_rules(rules, start, changed)
                    self.assertEqual(pace_plan_turns(web, pace, speed, (start, changed)), expected)
            only = {standing: moves[standing] for standing in coming}
            self.assertEqual(pace_plan_turns(web, pace, speed, (start, only)), pace_turns(web, pace, speed))

    def test_entries_that_do_not_come_up_count_for_nothing(self):
        row = row_web()
        for wrong in [*any_values(), *no_names(), "b", "c"]:
            further = {("a", "c"): wrong, ("b", "b"): wrong, ("q", "a"): wrong, ("a",): wrong, None: wrong, 0: wrong,
                       "ba": wrong, ("b", "a", "c"): wrong, ((), ("b",)): wrong}
            moves = {("b", "a"): "a", **further, ("b", "c"): "c"}
            self.assertEqual(pace_plan_turns(row, 1, 3, ("b", moves)), 1)
            self.assertEqual(pace_plan_turns(Web(["b"]), 12, 12, ("b", further)), 0)

    def test_any_value(self):
        ring = ring_web()
        start, moves = pace_plan(ring, 2, 1)
        values = [*any_values(), *no_names(), (), (start,), (start, moves, moves), [start, moves], (moves, start),
                  (start, None), (start, list(moves.items())), (start, {}), ("q", moves), (start, ring), (start, start),
                  ((start, moves),), {start: moves}]
        for value in values:
            self.assertIs(pace_plan_turns(ring, 2, 1, value), None)
            self.assertIs(pace_plan_turns(Web(["x", "y"]), 12, 1, value), None)
        for wrong in [*any_values(), *no_names()]:
            self.assertIs(pace_plan_turns(ring, 2, 1, (wrong, moves)), None)
            if not isinstance(wrong, dict):
                self.assertIs(pace_plan_turns(ring, 2, 1, (start, wrong)), None)

    def test_the_pace_of_a_plan(self):
        ring = ring_of(6)
        plan = pace_plan(ring, 3, 1)
        self.assertEqual([pace_plan_turns(ring, pace, 1, plan) for pace in (1, 2, 3, 4, 12)], [None, None, 1, 1, 1])


class WaysOut(unittest.TestCase):
    def assert_way_out(self, web, pace, speed):
        rules, value = Paced(web, pace, speed), pace_way_out(web, pace, speed)
        if pace_turns(web, pace, speed) is not None:
            self.assertIs(value, None)
            return
        self.assertIs(value.__class__, dict)
        for key in value:
            self.assertIn(key, standings_of(web))
        self.assertTrue(is_way_out_by_the_rules(rules, value))
        self.assertIs(is_pace_way_out(web, pace, speed, value), True)

    def test_small_webs(self):
        for web in [*all_webs(1), *all_webs(2), *all_webs(3), *all_webs(4)]:
            for pace, speed in ((1, 1), (1, 2), (2, 1), (2, 2), (12, 12)):
                self.assert_way_out(web, pace, speed)

    def test_large_webs(self):
        for game in games_of(large_webs(), SOME):
            self.assert_way_out(*game)
        for game in games_of(largest_webs(), [(1, 12), (2, 1), (5, 7)]):
            self.assert_way_out(*game)

    def test_all_dicts_of_small_webs(self):
        for web in (Web(["a"]), Web(["a", "b"]), Web(["a", "b"], [("a", "b")]), Web(["a", "b", "c"]), row_web(),
                    Web(["a", "b", "c"], [("a", "b")])):
            standings = standings_of(web)
            for places in product([None, *web.places], repeat=len(standings)):
                value = {key: place for key, place in zip(standings, places) if place is not None}
                expected = is_way_out_by_the_rules(Paced(web, 1, 2), value)
                self.assertIs(is_pace_way_out(web, 1, 2, value), expected)

    def test_entries_changed_and_left_out(self):
        for web, pace, speed in ((ring_web(), 1, 1), (ring_web(), 1, 2), (ring_of(8), 2, 3), (web_of_parts(4, 2), 2, 1),
                                 (ring_of(7), 2, 12), (web_of_parts(3, 1), 12, 1)):
            rules, value = Paced(web, pace, speed), pace_way_out(web, pace, speed)
            for key in standings_of(web):
                less = {other: value[other] for other in value if other != key}
                self.assertIs(is_pace_way_out(web, pace, speed, less), is_way_out_by_the_rules(rules, less))
                for place in web.places:
                    changed = {**value, key: place}
                    expected = is_way_out_by_the_rules(rules, changed)
                    self.assertIs(is_pace_way_out(web, pace, speed, changed), expected)
            for key in value:
                for wrong in [*any_values(), *no_names()]:
                    self.assertIs(is_pace_way_out(web, pace, speed, {**value, key: wrong}), False)

    def test_pace_one_against_speed_one(self):
        for web in [*all_webs(4), *some_webs(7, 30), ring_of(12)]:
            value = way_out(web)
            if value is not None:
                self.assertIs(is_pace_way_out(web, 1, 1, value), True)
                self.assertIs(is_way_out(web, pace_way_out(web, 1, 1)), True)

    def test_other_keys(self):
        ring = ring_web()
        value = pace_way_out(ring, 1, 2)
        less = {key: value[key] for key in value if key != ("a", "c")}
        for key in (None, True, 0, "", "ac", (), ("a",), ("a", "a"), ("a", "q"), ("q", "a"), ("a", None), (0, 1),
                    ("a", ("c",)), ("a", "c", "a"), (("a", "c"),)):
            for place in ["a", "c", *any_values()]:
                self.assertIs(is_pace_way_out(ring, 1, 2, {**value, key: place}), False)
                self.assertIs(is_pace_way_out(ring, 1, 2, {**less, key: place}), False)

    def test_any_value(self):
        ring = ring_web()
        value = pace_way_out(ring, 1, 2)
        for wrong in [*any_values(), *no_names(), list(value), list(value.items()), [value], (value,), {}]:
            for web in (ring, row_web(), Web(["a"]), Web(["a", "b"])):
                self.assertIs(is_pace_way_out(web, 1, 2, wrong), False)

    def test_the_runner_does_not_pass_the_guard(self):
        ring = ring_web()
        # Past the guard at b the runner would come from a to c by b alone, but it goes round by d.
        value = pace_way_out(ring, 1, 2)
        self.assertIs(is_pace_way_out(ring, 1, 2, {**value, ("b", "a"): "d"}), True)
        web = web_of_parts(3, 1).without(["c"])
        staying = {("a", "d"): "d", ("b", "d"): "d", ("d", "a"): "a"}
        self.assertIs(is_pace_way_out(web, 1, 12, staying), True)
        self.assertIs(is_pace_way_out(web, 1, 12, {**staying, ("d", "a"): "b"}), False)
        self.assertIs(is_pace_way_out(web, 1, 12, {**staying, ("d", "a"): "b", ("d", "b"): "a"}), True)
        self.assertIs(is_pace_way_out(web, 1, 12, {**staying, ("a", "b"): "d"}), False)


class Calls(unittest.TestCase):
    def test_results_are_new_and_the_web_stays(self):
        for web in (row_web(), ring_of(6), web_of_parts(4, 2), Web(["a"])):
            before = looks(web)
            for pace, speed in ((1, 1), (1, 3), (3, 2)):
                plan, value = pace_plan(web, pace, speed), pace_way_out(web, pace, speed)
                if plan is not None:
                    pace_plan(web, pace, speed)[1]["q"] = "q"
                if value is not None:
                    pace_way_out(web, pace, speed).clear()
                self.assertEqual((pace_plan(web, pace, speed), pace_way_out(web, pace, speed)), (plan, value))
                near, there = reach(web, "a", pace), runs(web, "a", web.places[-1], speed)
                reach(web, "a", pace).clear()
                runs(web, "a", web.places[-1], speed).append("q")
                self.assertEqual((reach(web, "a", pace), runs(web, "a", web.places[-1], speed)), (near, there))
                self.assertEqual(pace_turns(web, pace, speed), pace_turns(web, pace, speed))
                self.assertEqual(least_pace(web, speed), least_pace(web, speed))
            self.assertEqual(looks(web), before)

    def test_arguments_stay(self):
        ring = ring_web()
        plan, value = pace_plan(ring, 2, 1), pace_way_out(ring, 1, 2)
        pace_plan_turns(ring, 2, 1, plan)
        is_pace_way_out(ring, 1, 2, value)
        self.assertEqual((plan, value), (pace_plan(ring_web(), 2, 1), pace_way_out(ring_web(), 1, 2)))
        for value in any_values():
            before = repr(value)
            pace_plan_turns(ring, 2, 1, value)
            pace_plan_turns(ring, 2, 1, ("a", value))
            is_pace_way_out(ring, 1, 2, value)
            with self.assertRaises(WebError):
                pace_rank(ring, value, value, value, value)
            self.assertEqual(repr(value), before)

    def test_arguments_by_name(self):
        ring = ring_web()
        self.assertEqual(reach(pace=1, place="a", web=ring), ["a", "b", "d"])
        self.assertEqual(runs(speed=2, runner="c", guard="a", web=ring), ["b", "c", "d"])
        self.assertEqual(pace_rank(speed=1, pace=2, runner="c", guard="a", web=ring), 1)
        self.assertEqual(pace_turns(speed=12, pace=2, web=ring), 1)
        self.assertEqual(least_pace(speed=1, web=ring), 2)
        plan = pace_plan(speed=1, pace=2, web=ring)
        self.assertEqual(pace_plan_turns(value=plan, speed=1, pace=2, web=ring), 1)
        value = pace_way_out(speed=2, pace=1, web=ring)
        self.assertIs(is_pace_way_out(value=value, speed=2, pace=1, web=ring), True)
        self.assertEqual(rank_of(ring, "a", "c"), pace_rank(ring, "a", "c", pace=1, speed=1))


if __name__ == "__main__":
    unittest.main()

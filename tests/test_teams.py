"""Tests of cornerturn.teams."""

import unittest
from unittest import mock

from cornerturn import games
from cornerturn.errors import BadTie, NoPlace, WebError
from cornerturn.several import turns_with
from cornerturn.teams import (BadPost, is_team_way_out, posts, seen_posts, team_plan, team_plan_turns, team_rank,
                              team_ranks, team_starts, team_way_out)
from cornerturn.webs import Web
from rules import (Team, free_standings, is_way_out_by_the_rules, plan_turns_by_the_rules, ranks_by_the_rules,
                   standings_that_come_up, starts_by_the_rules)
from samples import (LETTERS, Mixed, all_webs, any_values, full_web, long_row, looks, no_names, opposite, renamed,
                     ring_of, ring_web, row_web, some_webs, turned_webs, web_of_parts)


def star_web():
    """Return the web of ten places for which three guards are needed: two rings of five, tied place by place."""
    ring = [(LETTERS[at], LETTERS[(at + 1) % 5]) for at in range(5)]
    star = [(LETTERS[5 + at], LETTERS[5 + (at + 2) % 5]) for at in range(5)]
    return Web(list(LETTERS[:10]), ring + star + [(LETTERS[at], LETTERS[at + 5]) for at in range(5)])


def apart(many):
    return Web(list(LETTERS[:many]))


def large_webs():
    """Return webs of seven to ten places, some of them in parts, some too hard for two guards."""
    return [*some_webs(7, 10), *some_webs(8, 8), *some_webs(10, 5), long_row(10), ring_of(10), full_web(10), star_web(),
            web_of_parts(4, 4, 2), web_of_parts(5, 5), web_of_parts(2, 2, 2), web_of_parts(6, 3), apart(10),
            opposite(ring_of(9)), *turned_webs()]


def hard_webs():
    """Return webs for which two guards are not enough."""
    return [apart(3), apart(4), web_of_parts(4, 2), web_of_parts(2, 1, 1), web_of_parts(4, 4), star_web()]


def wrong_posts():
    """Return values that are no posts of a web of a, b, c and d."""
    return [*any_values(), *no_names()[:-4], "a", "aa", ["a", "b"], ("b", "a"), ("d", "a"), ("c", "b"), ("a", "e"),
            ("e", "e"), ("a",), ("a", "b", "c"), ("a", None), (None, "a"), (1, 2), ("a", ("b",)), (("a", "b"),),
            (("a", "b"), "c"), (["a"], "b"), {"a": "b"}, ("a", "b", None), (True, "b"), [("a", "b")]]


class Examples(unittest.TestCase):
    def test_examples_of_the_document(self):
        row, ring = row_web(), ring_web()
        self.assertEqual([len(posts(ring)), seen_posts(row, ("a", "a"))], [10, [("a", "a"), ("a", "b"), ("b", "b")]])
        self.assertEqual([team_rank(ring, ("a", "c"), "b"), team_rank(ring, ("a", "a"), "c")], [1, 2])
        self.assertEqual(team_starts(ring), [("a", "b"), ("a", "c"), ("a", "d"), ("b", "c"), ("b", "d"), ("c", "d")])
        self.assertEqual([team_plan_turns(ring, team_plan(ring)), team_way_out(ring)], [1, None])
        self.assertEqual([team_starts(apart(3)), team_plan(apart(3))], [[], None])
        self.assertIs(is_team_way_out(apart(3), team_way_out(apart(3))), True)
        self.assertIs(is_team_way_out(ring, {}), False)
        with self.assertRaises(BadPost) as caught:
            team_rank(ring, ("c", "a"), "b")
        self.assertEqual(caught.exception.value, ("c", "a"))


class BadPosts(unittest.TestCase):
    def test_the_error(self):
        self.assertEqual(BadPost.__bases__, (WebError,))
        for value in any_values():
            self.assertIs(BadPost(value).value, value)
            self.assertIs(BadPost(value=value).value, value)
            self.assertEqual(vars(BadPost(value)), {"value": value})
        for arguments in ((), (1, 2)):
            with self.assertRaises(TypeError):
                BadPost(*arguments)

    def test_any_value(self):
        for value in wrong_posts():
            with self.subTest(repr(value)):
                with self.assertRaises(BadPost) as caught:
                    seen_posts(ring_web(), value)
                self.assertIs(caught.exception.value, value)
                for runner in ("a", "q", None):
                    with self.assertRaises(BadPost) as caught:
                        team_rank(ring_web(), value, runner)
                    self.assertIs(caught.exception.value, value)

    def test_runners_of_all_kinds(self):
        for value in [*any_values(), *no_names(), ("a", "b"), ["a"], BadTie(1)]:
            with self.assertRaises(NoPlace) as caught:
                team_rank(ring_web(), ("a", "b"), value)
            self.assertIs(caught.exception.value, value)

    def test_the_sequence_of_the_web_counts(self):
        web = Web(["c", "a", "b"], [("a", "b")])
        self.assertEqual(posts(web), [("c", "c"), ("c", "a"), ("c", "b"), ("a", "a"), ("a", "b"), ("b", "b")])
        self.assertEqual(seen_posts(web, ("c", "a")), [("c", "a"), ("c", "b")])
        with self.assertRaises(BadPost):
            seen_posts(web, ("a", "c"))


class Posts(unittest.TestCase):
    def assert_posts(self, web):
        rules = Team(web)
        self.assertEqual(posts(web), rules.stands)
        for post in rules.stands:
            self.assertEqual(seen_posts(web, post), rules.ways(post))

    def test_small_webs(self):
        for many in (1, 2, 3, 4):
            for web in all_webs(many):
                self.assert_posts(web)

    def test_large_webs(self):
        for web in large_webs():
            self.assert_posts(web)

    def test_both_guards_move(self):
        row = long_row(4)
        self.assertEqual(seen_posts(row, ("a", "d")), [("a", "c"), ("a", "d"), ("b", "c"), ("b", "d")])
        self.assertEqual(seen_posts(row, ("b", "c")), [("a", "b"), ("a", "c"), ("a", "d"), ("b", "b"), ("b", "c"),
                                                       ("b", "d"), ("c", "c"), ("c", "d")])
        self.assertEqual([len(posts(apart(1))), len(posts(apart(10)))], [1, 55])


class Ranks(unittest.TestCase):
    def assert_ranks(self, web):
        rules = Team(web)
        expected = ranks_by_the_rules(rules)
        self.assertEqual(team_ranks(web), expected)
        for (post, runner), rank in expected.items():
            self.assertEqual(team_rank(web, post, runner), rank)
            self.assertIsNot(rank.__class__, bool)
        turns, starts = starts_by_the_rules(rules, expected)
        self.assertEqual(team_starts(web), starts)
        if len(web.places) <= 7:
            self.assertEqual(turns_with(web, 2), turns)

    def test_small_webs(self):
        for many in (1, 2, 3, 4):
            for web in all_webs(many):
                self.assert_ranks(web)

    def test_large_webs(self):
        for web in [*some_webs(5, 40), *some_webs(6, 25), *large_webs()]:
            self.assert_ranks(web)

    def test_against_the_turns_with_two_guards(self):
        for web in [*some_webs(6, 60), *some_webs(7, 40), *hard_webs()[:-2]]:
            turns = turns_with(web, 2)
            starts = team_starts(web)
            self.assertEqual(starts == [], turns is None)
            for start in starts:
                self.assertEqual(max(team_rank(web, start, runner) for runner in web.places), turns)

    def test_webs_of_one_and_two_places(self):
        self.assertEqual(team_ranks(Web(["x"])), {(("x", "x"), "x"): 0})
        self.assertEqual(team_starts(Web(["x"])), [("x", "x")])
        self.assertEqual(team_ranks(Web(["b", "a"])), {(("b", "b"), "b"): 0, (("b", "b"), "a"): None,
                                                       (("b", "a"), "b"): 0, (("b", "a"), "a"): 0,
                                                       (("a", "a"), "b"): None, (("a", "a"), "a"): 0})
        self.assertEqual(team_starts(Web(["b", "a"])), [("b", "a")])
        self.assertEqual(team_starts(Web(["b", "a"], [("a", "b")])), [("b", "a")])

    def test_known_webs(self):
        self.assertEqual(team_starts(star_web()), [])
        self.assertEqual(team_starts(long_row(10)), [("c", "h")])
        self.assertEqual(max(team_rank(long_row(10), ("c", "h"), runner) for runner in LETTERS[:10]), 2)
        self.assertEqual(team_starts(web_of_parts(3, 2)), [(one, other) for one in "abc" for other in "de"])

    def test_ranks_are_reckoned_once(self):
        web = ring_of(7)
        with mock.patch.object(games, "rank_rounds", wraps=games.rank_rounds) as reckoned:
            for _ in range(3):
                team_ranks(web)
                team_starts(web)
                team_plan(web)
                team_way_out(web)
                team_rank(web, ("a", "c"), "e")
            self.assertEqual(reckoned.call_count, 1)


class Plans(unittest.TestCase):
    def assert_plan(self, web):
        rules, plan = Team(web), team_plan(web)
        turns, starts = starts_by_the_rules(rules, team_ranks(web))
        if turns is None:
            self.assertIs(plan, None)
            return
        self.assertEqual((plan.__class__, len(plan), plan[1].__class__), (tuple, 2, dict))
        self.assertIn(plan[0], starts)
        for (post, runner), later in plan[1].items():
            self.assertIn((post, runner), team_ranks(web))
            self.assertIn(later, rules.ways(post))
        self.assertEqual(plan_turns_by_the_rules(rules, *plan), turns)
        self.assertEqual(team_plan_turns(web, plan), turns)
        self.assertIs(team_plan_turns(web, plan).__class__, int)

    def test_small_webs(self):
        for many in (1, 2, 3, 4):
            for web in all_webs(many):
                self.assert_plan(web)

    def test_large_webs(self):
        for web in [*some_webs(5, 40), *some_webs(6, 25), *large_webs()]:
            self.assert_plan(web)

    def test_one_place(self):
        self.assertEqual(team_plan(Web(["x"]))[0], ("x", "x"))
        for plan, turns in ((team_plan(Web(["x"])), 0), ((("x", "x"), {}), 0), (("x", {}), None), (("x", "x"), None),
                            ((("x", "x"), {None: 1}), 0), ((("x", "x"), []), None)):
            self.assertEqual(team_plan_turns(Web(["x"]), plan), turns)

    def test_mixed_plans(self):
        mixed = Mixed()
        good = 0
        for web in [*some_webs(3, 20), *some_webs(4, 60), *some_webs(5, 60), *some_webs(6, 20), web_of_parts(2, 2)]:
            rules = Team(web)
            for _ in range(12):
                moves = {}
                for post, runner in free_standings(rules):
                    catching = [way for way in rules.ways(post) if runner in way]
                    moves[post, runner] = mixed.of(catching if catching and mixed.below(9) else rules.ways(post))
                start = mixed.of(rules.stands)
                expected = plan_turns_by_the_rules(rules, start, moves)
                self.assertEqual(team_plan_turns(web, (start, moves)), expected)
                good += expected is not None
        self.assertGreater(good, 100)

    def test_good_plans_with_changes(self):
        mixed = Mixed()
        for web in [*some_webs(5, 20), *some_webs(6, 10), long_row(7), web_of_parts(4, 1)]:
            plan = team_plan(web)
            if plan is None:
                continue
            rules = Team(web)
            for start in rules.stands:
                self.assertEqual(team_plan_turns(web, (start, plan[1])), plan_turns_by_the_rules(rules, start, plan[1]))
            for standing in plan[1]:
                moves = {**plan[1], standing: mixed.of(rules.ways(standing[0]))}
                moves[mixed.of(free_standings(rules))] = mixed.of(rules.stands)
                expected = plan_turns_by_the_rules(rules, plan[0], moves)
                self.assertEqual(team_plan_turns(web, (plan[0], moves)), expected)

    def test_entries_changed_and_left_out(self):
        for web in (row_web(), ring_web(), ring_of(6), long_row(7), web_of_parts(3, 2)):
            rules, (start, moves) = Team(web), team_plan(web)
            coming = standings_that_come_up(rules, (start, moves))
            for standing in coming:
                less = {key: moves[key] for key in moves if key != standing}
                self.assertIs(team_plan_turns(web, (start, less)), None)
                for wrong in wrong_posts():
                    if wrong not in rules.ways(standing[0]):
                        self.assertIs(team_plan_turns(web, (start, {**moves, standing: wrong})), None)
                for post in rules.stands:
                    if post not in rules.ways(standing[0]):
                        self.assertIs(team_plan_turns(web, (start, {**moves, standing: post})), None)
                waiting = {**moves, standing: standing[0]}
                self.assertIs(team_plan_turns(web, (start, waiting)), None)
            only = {standing: moves[standing] for standing in coming}
            self.assertEqual(team_plan_turns(web, (start, only)), team_plan_turns(web, (start, moves)))

    def test_posts_the_other_way_round(self):
        ring = ring_web()
        start, moves = ("a", "c"), {(("a", "c"), "b"): ("b", "c"), (("a", "c"), "d"): ("a", "d")}
        self.assertEqual(team_plan_turns(ring, (start, moves)), 1)
        self.assertIs(team_plan_turns(ring, (("c", "a"), moves)), None)
        self.assertIs(team_plan_turns(ring, (start, {**moves, (start, "b"): ("c", "b")})), None)
        turned = {((other, one), runner): moves[(one, other), runner] for (one, other), runner in moves}
        self.assertIs(team_plan_turns(ring, (start, turned)), None)

    def test_entries_that_do_not_come_up_count_for_nothing(self):
        ring = ring_web()
        start, moves = ("a", "c"), {(("a", "c"), "b"): ("b", "c"), (("a", "c"), "d"): ("a", "d")}
        for wrong in [*any_values(), *no_names(), ("c", "a"), ("a", "c")]:
            further = {(("a", "c"), "a"): wrong, (("a", "a"), "c"): wrong, (("c", "a"), "b"): wrong, ("a", "b"): wrong,
                       None: wrong, True: wrong, 0: wrong, "ba": wrong, (("a", "c"), "b", "c"): wrong,
                       (("a", "c"), "q"): wrong, (("a", "c"),): wrong, ((), ("b",)): wrong, (("a", "c"), ("b",)): wrong}
            self.assertEqual(team_plan_turns(ring, (start, {**further, **moves})), 1)
            self.assertEqual(team_plan_turns(Web(["b"]), (("b", "b"), further)), 0)

    def test_any_value(self):
        ring = ring_web()
        start, moves = team_plan(ring)
        values = [*any_values(), *no_names(), (), (start,), (start, moves, moves), [start, moves], (moves, start),
                  (start, None), (start, list(moves.items())), (start, [moves]), (start, {}), ("a", moves),
                  ((start, moves),), [(start, moves)], (start, start), (list(start), moves), (start + start, moves),
                  (start, ring), (ring, moves), {start: moves}]
        for value in values:
            for web in (ring, apart(3), row_web()):
                self.assertIs(team_plan_turns(web, value), None)
        for wrong in wrong_posts():
            self.assertIs(team_plan_turns(ring, (wrong, moves)), None)
            if not isinstance(wrong, dict):
                self.assertIs(team_plan_turns(ring, (start, wrong)), None)

    def test_webs_for_which_two_guards_are_not_enough(self):
        for web in hard_webs():
            rules = Team(web)
            moves = {(post, runner): next((way for way in rules.ways(post) if runner in way), post)
                     for post, runner in free_standings(rules)}
            for start in rules.stands:
                self.assertIs(team_plan_turns(web, (start, moves)), None)


class WaysOut(unittest.TestCase):
    def assert_way_out(self, web):
        rules, value = Team(web), team_way_out(web)
        if team_starts(web):
            self.assertIs(value, None)
            return
        self.assertIs(value.__class__, dict)
        for key in value:
            self.assertIn(key, free_standings(rules))
        self.assertTrue(is_way_out_by_the_rules(rules, value))
        self.assertIs(is_team_way_out(web, value), True)

    def test_small_webs(self):
        for many in (1, 2, 3, 4):
            for web in all_webs(many):
                self.assert_way_out(web)

    def test_large_webs(self):
        for web in [*some_webs(5, 40), *some_webs(6, 25), *large_webs(), *hard_webs()]:
            self.assert_way_out(web)

    def test_entries_changed_and_left_out(self):
        for web in (apart(3), web_of_parts(2, 1, 1), web_of_parts(3, 1, 1), web_of_parts(4, 2), web_of_parts(5, 1)):
            rules, value = Team(web), team_way_out(web)
            for key in free_standings(rules):
                less = {other: value[other] for other in value if other != key}
                self.assertIs(is_team_way_out(web, less), is_way_out_by_the_rules(rules, less))
                for place in web.places:
                    changed = {**value, key: place}
                    self.assertIs(is_team_way_out(web, changed), is_way_out_by_the_rules(rules, changed))
            for key in value:
                for wrong in [*any_values(), *no_names()]:
                    self.assertIs(is_team_way_out(web, {**value, key: wrong}), False)

    def test_mixed_ways_out(self):
        mixed = Mixed()
        counts = {True: 0, False: 0}
        for web in [*hard_webs()[:-1], web_of_parts(3, 1, 1), web_of_parts(5, 1), web_of_parts(4, 1, 1), apart(5)]:
            rules, ranks = Team(web), team_ranks(web)
            for _ in range(40):
                value = {}
                for post, runner in free_standings(rules):
                    safe = [place for place in web.sees(runner) if ranks[post, place] is None]
                    if safe and mixed.below(90):
                        value[post, runner] = mixed.of(safe)
                expected = is_way_out_by_the_rules(rules, value)
                self.assertIs(is_team_way_out(web, value), expected)
                counts[expected] += 1
        self.assertGreater(min(counts.values()), 40)

    def test_each_entry_counts_though_it_never_comes_up(self):
        web = apart(4)
        value = team_way_out(web)
        # The runner begins at the first free place, and so it never stands at d.
        less = {key: value[key] for key in value if key[1] != "d"}
        self.assertEqual([is_team_way_out(web, value), is_team_way_out(web, less)], [True, True])
        self.assertIs(is_team_way_out(web, {**less, (("a", "b"), "d"): "d"}), True)
        self.assertIs(is_team_way_out(web, {**less, (("a", "b"), "d"): "c"}), False)

    def test_other_keys(self):
        web = apart(3)
        value = team_way_out(web)
        less = {key: value[key] for key in value if key != (("a", "b"), "c")}
        for key in (None, True, 0, "", "abc", (), (("a", "b"),), (("b", "a"), "c"), (("a", "b"), "b"),
                    (("a", "a"), "a"), ("a", "b"), (("a", "b"), "q"), (("a", "q"), "c"), (("a", "b"), None),
                    (("a", "b"), ("c",)),
                    (("a", "b", "c"), "c"), (("a", "b"), "c", "c"), ((("a", "b"), "c"),), ("c", ("a", "b")),
                    (True, False), ((0, 1), 2), ("ab", "c")):
            for place in ["a", "c", *any_values()]:
                self.assertIs(is_team_way_out(web, {**value, key: place}), False)
                self.assertIs(is_team_way_out(web, {**less, key: place}), False)
                self.assertIs(is_team_way_out(web, {key: place}), False)

    def test_wherever_the_guards_begin(self):
        web = web_of_parts(2, 1, 1)
        staying = {(post, runner): runner for post, runner in team_ranks(web) if runner not in post}
        # In the part of a and b the runner is caught by a guard who is there; elsewhere it stays.
        value = {(post, runner): place for (post, runner), place in staying.items()
                 if runner in "cd" or not set("ab") & set(post)}
        self.assertEqual([is_team_way_out(web, value), is_team_way_out(web, staying)], [True, False])
        part = {key: value[key] for key in value if key[0] != ("c", "d")}
        self.assertIs(is_team_way_out(web, part), False)

    def test_any_value(self):
        value = team_way_out(apart(3))
        others = [list(value), list(value.items()), tuple(value.items()), [value], (value,), team_ranks(apart(3)), {}]
        for wrong in [*any_values(), *no_names(), *others]:
            for web in (apart(3), ring_web(), Web(["a"])):
                self.assertIs(is_team_way_out(web, wrong), False)

    def test_webs_for_which_two_guards_are_enough(self):
        for web in (row_web(), ring_web(), full_web(4), Web(["a"]), apart(2), web_of_parts(2, 2)):
            rules = Team(web)
            self.assertIs(is_team_way_out(web, {}), False)
            staying = {(post, runner): runner for post, runner in free_standings(rules)}
            self.assertIs(is_team_way_out(web, staying), False)


class Calls(unittest.TestCase):
    def test_results_are_new_and_the_web_stays(self):
        for web in (row_web(), ring_web(), apart(3), web_of_parts(4, 2), Web(["a"]), long_row(10)):
            before = looks(web)
            for function in (posts, team_ranks, team_starts, team_way_out):
                found = function(web)
                if found is not None:
                    function(web).clear()
                self.assertEqual(function(web), found)
            plan = team_plan(web)
            if plan is not None:
                team_plan(web)[1].clear()
                team_plan(web)[1]["q"] = "q"
            self.assertEqual(team_plan(web), plan)
            post = posts(web)[0]
            seen = seen_posts(web, post)
            seen_posts(web, post).clear()
            self.assertEqual(seen_posts(web, post), seen)
            self.assertEqual(looks(web), before)

    def test_arguments_stay(self):
        ring = ring_web()
        plan, value = team_plan(ring), team_way_out(apart(3))
        team_plan_turns(ring, plan)
        is_team_way_out(apart(3), value)
        self.assertEqual((plan, value, looks(ring)), (team_plan(ring_web()), team_way_out(apart(3)), looks(ring_web())))
        for value in [*any_values(), *wrong_posts()]:
            before = repr(value)
            team_plan_turns(ring, value)
            team_plan_turns(ring, (("a", "b"), value))
            is_team_way_out(ring, value)
            with self.assertRaises(WebError):
                seen_posts(ring, value)
            with self.assertRaises(WebError):
                team_rank(ring, value, value)
            self.assertEqual(repr(value), before)

    def test_calls_that_raise_change_nothing(self):
        ring = ring_web()
        with self.assertRaises(BadPost):
            team_rank(ring, None, None)
        self.assertEqual((team_ranks(ring), looks(ring)), (team_ranks(ring_web()), looks(ring_web())))

    def test_equal_webs_in_another_sequence(self):
        web = web_of_parts(4, 2)
        other = renamed(web, web.places, [3, 5, 1, 0, 4, 2])
        for (one, two), runner in team_ranks(web):
            post = tuple(sorted((one, two), key=other.places.index))
            self.assertEqual(team_rank(web, (one, two), runner), team_rank(other, post, runner))

    def test_arguments_by_name(self):
        ring = ring_web()
        self.assertEqual(posts(web=ring), posts(ring))
        self.assertEqual(seen_posts(post=("a", "b"), web=ring), seen_posts(ring, ("a", "b")))
        self.assertEqual(team_rank(runner="c", post=("a", "a"), web=ring), 2)
        self.assertEqual(team_ranks(web=ring), team_ranks(ring))
        self.assertEqual(team_starts(web=ring), team_starts(ring))
        self.assertEqual(team_plan_turns(value=team_plan(web=ring), web=ring), 1)
        self.assertIs(is_team_way_out(value=team_way_out(web=apart(3)), web=apart(3)), True)


if __name__ == "__main__":
    unittest.main()

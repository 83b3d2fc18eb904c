"""Tests of cornerturn.several."""

import unittest
from itertools import product

from cornerturn.ranks import turns_needed
from cornerturn.several import fewest, turns_with
from cornerturn.webs import Web
from samples import (LETTERS, all_webs, full_web, long_row, looks, ring_of, ring_web, row_web, some_webs, web_of_parts)


def turns_by_the_rules(web, many):
    """Return the turns that a web needs with a number of guards, as points [4] and [10] say it."""
    teams = list(product(web.places, repeat=many))
    moves = {team: list(product(*[web.sees(guard) for guard in team])) for team in teams}
    caught = {(team, runner) for team in teams for runner in team}
    ranked, size, rank = set(caught), 0, 0
    while True:
        if any(all((team, runner) in ranked for runner in web.places) for team in teams):
            return rank
        if len(ranked) == size:
            return None
        size = len(ranked)
        # Where the runner is to move: caught already, or coming to a standing with a rank by each move.
        lost = {(team, runner) for team in teams for runner in web.places
                if runner in team or all((team, other) in ranked for other in web.sees(runner))}
        ranked |= {(team, runner) for team in teams for runner in web.places
                   if any((later, runner) in lost for later in moves[team])}
        rank += 1


def fewest_by_the_rules(web):
    many = 1
    while turns_by_the_rules(web, many) is None:
        many += 1
    return many


class Examples(unittest.TestCase):
    def test_examples_of_the_document(self):
        row, ring = row_web(), ring_web()
        self.assertEqual([turns_with(ring, 1), turns_with(ring, 2), fewest(ring), fewest(row)], [None, 1, 2, 1])
        self.assertEqual([fewest(row.without(["b"])), turns_with(row, 3)], [2, 0])


class TurnsWith(unittest.TestCase):
    def assert_turns(self, web, many):
        turns = turns_with(web, many)
        self.assertEqual(turns, turns_by_the_rules(web, many))
        self.assertIn(turns.__class__, (int, None.__class__))

    def test_small_webs(self):
        for places in (1, 2, 3, 4):
            for web in all_webs(places):
                for many in (1, 2, 3):
                    self.assert_turns(web, many)

    def test_larger_webs(self):
        for places, many, count in ((5, 1, 60), (5, 2, 60), (5, 3, 20), (6, 1, 60), (6, 2, 60), (7, 1, 60), (7, 2, 40)):
            for web in some_webs(places, count):
                self.assert_turns(web, many)

    def test_three_guards_for_several_parts(self):
        for parts in ((2, 2, 2), (3, 1, 1), (4, 2), (4, 1, 1), (5, 1), (2, 2, 1, 1), (1, 1, 1, 1)):
            self.assert_turns(web_of_parts(*parts), 3)
        long_part = Web(list("abcdefg"), [("a", "b"), ("b", "c"), ("c", "d"), ("d", "e")])
        self.assertEqual([turns_with(long_part, many) for many in (1, 2, 3)], [None, None, 2])

    def test_one_guard_needs_the_turns_that_the_web_needs(self):
        for places in (1, 3, 5, 6, 7):
            for web in some_webs(places, 40):
                self.assertEqual(turns_with(web, 1), turns_needed(web))

    def test_rows(self):
        self.assertEqual([turns_with(long_row(places), 1) for places in range(1, 8)], [0, 1, 1, 2, 2, 3, 3])
        self.assertEqual([turns_with(long_row(places), 2) for places in range(1, 8)], [0, 0, 1, 1, 1, 1, 2])
        self.assertEqual([turns_with(long_row(places), 3) for places in range(1, 8)], [0, 0, 0, 1, 1, 1, 1])

    def test_rings(self):
        for places in (4, 5, 6, 7):
            ring = ring_of(places)
            self.assertEqual([turns_with(ring, many) is None for many in (1, 2, 3)], [True, False, False])
        self.assertEqual([turns_with(ring_of(7), many) for many in (2, 3)], [2, 1])

    def test_as_many_guards_as_places(self):
        for web in (Web(["a"]), Web(["a", "b"]), Web(["a", "b", "c"]), full_web(3)):
            self.assertEqual(turns_with(web, len(web.places)), 0)
        self.assertEqual([turns_with(Web(["a"]), 3), turns_with(full_web(7), 3)], [0, 1])

    def test_guards_at_one_place_are_no_worse_than_fewer(self):
        for web in some_webs(6, 60):
            turns = [turns_with(web, many) for many in (1, 2, 3)]
            for fewer, more in zip(turns, turns[1:]):
                self.assertTrue(fewer is None or more is not None and more <= fewer)

    def test_seven_places_without_a_tie(self):
        self.assertEqual([turns_with(Web(list("abcdefg")), many) for many in (1, 2, 3)], [None, None, None])


class Fewest(unittest.TestCase):
    def test_small_webs(self):
        for places in (1, 2, 3, 4):
            for web in all_webs(places):
                self.assertEqual(fewest(web), fewest_by_the_rules(web))

    def test_larger_webs(self):
        for places, count in ((5, 60), (6, 20)):
            for web in some_webs(places, count):
                if len(web.parts()) < 4:
                    self.assertEqual(fewest(web), fewest_by_the_rules(web))

    def test_it_agrees_with_turns(self):
        for places in (5, 6, 7):
            for web in some_webs(places, 60):
                many = fewest(web)
                self.assertIs(many.__class__, int)
                self.assertEqual([turns_with(web, guards) is not None for guards in (1, 2, 3)],
                                 [guards >= many for guards in (1, 2, 3)])

    def test_webs_without_ties(self):
        for places in range(1, 8):
            self.assertEqual(fewest(Web(list(LETTERS[:places]))), places)

    def test_webs_in_several_parts(self):
        expected = {(4, 3): 3, (4, 1): 3, (5, 2): 3, (2, 2, 2, 1): 4, (3, 2, 2): 3, (4, 1, 1, 1): 5, (5, 1, 1): 4,
                    (2, 1, 1, 1, 1, 1): 6, (2, 2, 1, 1, 1): 5, (7,): 2, (6, 1): 3, (3, 3, 1): 3}
        for parts, many in expected.items():
            self.assertEqual(fewest(web_of_parts(*parts)), many)

    def test_one_place_and_full_webs(self):
        self.assertEqual([fewest(full_web(places)) for places in range(1, 8)], [1] * 7)


class Unchanged(unittest.TestCase):
    def test_the_web_stays_and_the_same_call_returns_an_equal_result(self):
        for web in (row_web(), ring_web(), web_of_parts(4, 2, 1)):
            before = looks(web)
            first = [turns_with(web, 1), turns_with(web, 2), turns_with(web, 3), fewest(web)]
            self.assertEqual([turns_with(web, 1), turns_with(web, 2), turns_with(web, 3), fewest(web)], first)
            self.assertEqual(looks(web), before)

    def test_arguments_by_name(self):
        self.assertEqual([turns_with(many=2, web=ring_web()), fewest(web=ring_web())], [1, 2])


if __name__ == "__main__":
    unittest.main()

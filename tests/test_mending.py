"""Tests of cornerturn.mending."""

import unittest
from itertools import combinations

from cornerturn.mending import places_to_shut, ties_to_add
from cornerturn.ranks import turns_needed
from cornerturn.webs import Web
from samples import (LETTERS, all_webs, can_be_taken_apart, full_web, long_row, looks, opposite, ring_of, ring_web,
                     row_web, some_webs, web_of_parts)


def fewest_ties(web):
    couples = [(one, other) for one, other in combinations(web.places, 2) if other not in web.sees(one)]
    for many in range(len(couples) + 1):
        for ties in combinations(couples, many):
            if can_be_taken_apart(web.tied(ties)):
                return many


def fewest_places(web):
    for many in range(len(web.places)):
        for places in combinations(web.places, many):
            if can_be_taken_apart(web.without(list(places))):
                return many


class Examples(unittest.TestCase):
    def test_examples_of_the_document(self):
        row, ring = row_web(), ring_web()
        self.assertEqual([len(ties_to_add(ring)), len(places_to_shut(ring)), ties_to_add(row)], [1, 1, []])
        self.assertEqual(len(ties_to_add(Web(["a", "b", "c"]))), 2)


class TiesToAdd(unittest.TestCase):
    def assert_ties(self, web, many):
        ties = ties_to_add(web)
        self.assertEqual((ties.__class__, len(ties)), (list, many))
        for tie in ties:
            self.assertEqual((tie.__class__, len(tie)), (tuple, 2))
        # Web.tied takes new ties only, each once.
        self.assertIsNot(turns_needed(web.tied(ties)), None)
        self.assertEqual(many == 0, turns_needed(web) is not None)

    def test_small_webs(self):
        for places in (1, 2, 3, 4):
            for web in all_webs(places):
                self.assert_ties(web, fewest_ties(web))

    def test_larger_webs(self):
        for places, count in ((5, 100), (6, 80), (7, 60)):
            for web in some_webs(places, count):
                if len(web.parts()) < 4:
                    self.assert_ties(web, fewest_ties(web))

    def test_rings(self):
        for places in (4, 5, 6, 7):
            self.assert_ties(ring_of(places), fewest_ties(ring_of(places)))
        self.assertEqual([len(ties_to_add(ring_of(places))) for places in (3, 4, 5, 6, 7)], [0, 1, 2, 3, 4])

    def test_webs_in_several_parts(self):
        for parts in ((4, 3), (4, 1), (5, 1), (4, 2, 1), (3, 3, 1), (2, 2, 2)):
            self.assert_ties(web_of_parts(*parts), fewest_ties(web_of_parts(*parts)))
        self.assert_ties(web_of_parts(5, 1, 1), 4)
        self.assert_ties(web_of_parts(4, 1, 1, 1), 4)

    def test_webs_without_ties(self):
        for places in range(1, 8):
            self.assert_ties(Web(list(LETTERS[:places])), places - 1)

    def test_other_webs_of_seven_places(self):
        web = opposite(ring_of(7))
        self.assert_ties(web, fewest_ties(web))
        four_and_three = Web(list("abcdefg"), [(one, other) for one in "abcd" for other in "efg"])
        self.assert_ties(four_and_three, fewest_ties(four_and_three))

    def test_nothing_to_add(self):
        for web in (Web(["a"]), row_web(), long_row(7), full_web(7), full_web(2)):
            self.assertEqual(ties_to_add(web), [])


class PlacesToShut(unittest.TestCase):
    def assert_places(self, web, many):
        places = places_to_shut(web)
        self.assertEqual((places.__class__, len(places)), (list, many))
        # Web.without takes a list of different places, and not all of them.
        self.assertIsNot(turns_needed(web.without(places)), None)
        self.assertEqual(many == 0, turns_needed(web) is not None)

    def test_small_webs(self):
        for places in (1, 2, 3, 4):
            for web in all_webs(places):
                self.assert_places(web, fewest_places(web))

    def test_larger_webs(self):
        for places in (5, 6, 7):
            for web in some_webs(places, 60):
                self.assert_places(web, fewest_places(web))

    def test_rings_and_parts(self):
        for web in (ring_of(4), ring_of(7), web_of_parts(4, 3), web_of_parts(5, 1, 1), web_of_parts(2, 2, 2, 1),
                    web_of_parts(4, 2, 1), opposite(ring_of(7))):
            self.assert_places(web, fewest_places(web))
        self.assertEqual([len(places_to_shut(ring_of(places))) for places in (3, 4, 5, 6, 7)], [0, 1, 1, 1, 1])

    def test_webs_without_ties(self):
        for places in range(1, 8):
            self.assert_places(Web(list(LETTERS[:places])), places - 1)

    def test_nothing_to_shut(self):
        for web in (Web(["a"]), row_web(), long_row(7), full_web(7), full_web(2)):
            self.assertEqual(places_to_shut(web), [])


class Unchanged(unittest.TestCase):
    def test_results_are_new_and_the_web_stays(self):
        for web in (row_web(), ring_web(), Web(list("abcdefg")), web_of_parts(4, 2)):
            before, ties, places = looks(web), ties_to_add(web), places_to_shut(web)
            ties_to_add(web).append(("q", "q"))
            ties_to_add(web).clear()
            places_to_shut(web).append("q")
            places_to_shut(web).clear()
            self.assertEqual([ties_to_add(web), places_to_shut(web)], [ties, places])
            self.assertEqual(looks(web), before)

    def test_arguments_by_name(self):
        ring = ring_web()
        self.assertEqual([ties_to_add(web=ring), places_to_shut(web=ring)], [ties_to_add(ring), places_to_shut(ring)])


if __name__ == "__main__":
    unittest.main()

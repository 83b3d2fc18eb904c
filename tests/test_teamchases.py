"""Tests of cornerturn.teamchases."""

import unittest
from unittest import mock

from cornerturn import games
from cornerturn.chases import Chase
from cornerturn.errors import BadMove, BadTie, TooFar, WebError
from cornerturn.several import turns_with
from cornerturn.teamchases import TeamChase
from cornerturn.teams import BadPost, posts, seen_posts, team_ranks, team_starts
from cornerturn.webs import Web
from rules import Team, answers_by_the_rules, ranks_by_the_rules
from samples import (LETTERS, Mixed, all_webs, any_values, full_web, long_row, looks, no_names, opposite, renamed,
                     ring_of, ring_web, row_web, some_webs, turned_webs, web_of_parts)


def chase_with(web, *moves):
    chase = TeamChase(web)
    for move in moves:
        chase.move(move)
    return chase


def look(chase):
    """Return all that can be seen of a chase."""
    return chase.web, chase.post, chase.runner, chase.turns, chase.who, chase.left(), chase.best()


def all_stands(web):
    """Yield chases for all that a play of a web can come to."""
    yield TeamChase(web)
    for post in posts(web):
        yield chase_with(web, post)
        for runner in web.places:
            yield chase_with(web, post, runner)
            if runner not in post:
                for way in seen_posts(web, post):
                    yield chase_with(web, post, runner, way)


def large_webs():
    return [*some_webs(5, 8), *some_webs(6, 4), ring_of(7), long_row(7), web_of_parts(4, 2), web_of_parts(3, 2, 1),
            full_web(5), Web(list("abcde")), opposite(ring_of(6)), *turned_webs()]


class Examples(unittest.TestCase):
    def test_examples_of_the_document(self):
        hunt = TeamChase(ring_web())
        self.assertEqual([hunt.who, hunt.left(), hunt.best()[:2]], ["guards", 1, [("a", "b"), ("a", "c")]])
        self.assertEqual([hunt.move(("a", "b")), hunt.who, hunt.left(), hunt.best()], [None, "runner", 1, ["c", "d"]])
        self.assertEqual([hunt.move("c"), hunt.left(), hunt.best()], [None, 1, [("a", "c"), ("b", "c"), ("c", "d")]])
        self.assertEqual([hunt.move(("c", "d")), hunt.who, hunt.turns, hunt.undo(1)], [None, "none", 1, None])
        self.assertEqual(hunt.post, ("a", "b"))
        with self.assertRaises(BadMove) as caught:
            hunt.move(("c", "c"))
        self.assertEqual(caught.exception.value, ("c", "c"))


class Answers(unittest.TestCase):
    def assert_answers(self, web):
        rules = Team(web)
        ranks = ranks_by_the_rules(rules)
        for chase in all_stands(web):
            self.assertEqual((chase.left(), chase.best()), answers_by_the_rules(rules, ranks, chase, chase.post))

    def test_small_webs(self):
        for web in [*all_webs(1), *all_webs(2), *all_webs(3), *list(all_webs(4))[::5]]:
            self.assert_answers(web)

    def test_larger_webs(self):
        for web in large_webs():
            self.assert_answers(web)

    def test_ten_places(self):
        mixed = Mixed()
        for web in [*some_webs(10, 5), ring_of(10), web_of_parts(4, 4, 2), full_web(10)]:
            rules, ranks = Team(web), team_ranks(web)
            for _ in range(15):
                chase = chase_with(web, mixed.of(rules.stands))
                self.assertEqual((chase.left(), chase.best()), answers_by_the_rules(rules, ranks, chase, chase.post))
                chase.move(mixed.of([place for place in web.places if place not in chase.post]))
                self.assertEqual((chase.left(), chase.best()), answers_by_the_rules(rules, ranks, chase, chase.post))
                chase.move(mixed.of(rules.ways(chase.post)))
                self.assertEqual((chase.left(), chase.best()), answers_by_the_rules(rules, ranks, chase, chase.post))

    def test_best_moves_reach_what_is_left(self):
        for web in [*all_webs(3), *some_webs(5, 5), web_of_parts(2, 1, 1)]:
            for chase in all_stands(web):
                self.assert_best_moves_reach(chase)

    def assert_best_moves_reach(self, chase):
        left, best = chase.left(), chase.best()
        if chase.who == "none":
            self.assertEqual((left, best), (0, []))
            return
        # The guards' move is one of the turns that were left; a turn that is running is none of them.
        spent = 1 if chase.who == "guards" and chase.runner is not None else 0
        found = []
        for choice in posts(chase.web) if chase.who == "guards" else chase.web.places:
            ahead = chase.fork()
            try:
                ahead.move(choice)
            except BadMove:
                continue
            later = ahead.left()
            later = None if later is None else later + spent
            if later == left:
                found.append(choice)
            elif chase.who == "guards":
                self.assertTrue(later is None or later > left)
            else:
                self.assertTrue(left is None or later < left)
        self.assertEqual(best, found)
        self.assertTrue(best)

    def test_the_beginning(self):
        for web in [*all_webs(4), *some_webs(7, 15)]:
            chase = TeamChase(web)
            self.assertEqual(chase.left(), turns_with(web, 2))
            self.assertEqual(chase.best(), posts(web) if chase.left() is None else team_starts(web))

    def test_plays_with_best_moves(self):
        for web in [*all_webs(4), *some_webs(7, 10), long_row(10), full_web(10), ring_of(10)]:
            chase = TeamChase(web)
            turns = chase.left()
            chase.move(chase.best()[0])
            chase.move(chase.best()[-1])
            for done in range(8):
                if chase.who == "none":
                    break
                self.assertEqual((chase.turns, chase.left()), (done, None if turns is None else turns - done))
                chase.move(chase.best()[-1])
                if chase.who == "runner":
                    chase.move(chase.best()[0])
            if turns is None:
                self.assertEqual((chase.who, chase.turns), ("guards", 8))
            else:
                self.assertEqual((chase.who, chase.turns, chase.left(), chase.best()), ("none", turns, 0, []))

    def test_the_runner_can_get_away_for_ever(self):
        web = web_of_parts(4, 1)
        chase = chase_with(web, ("a", "b"))
        self.assertEqual((chase.left(), chase.best()), (None, ["e"]))
        chase.move("e")
        self.assertEqual((chase.left(), chase.best()), (None, seen_posts(web, ("a", "b"))))
        chase.move(("a", "c"))
        self.assertEqual((chase.left(), chase.best()), (None, ["e"]))
        chase.undo(3)
        chase.move(("a", "e"))
        self.assertEqual((chase.left(), chase.best()), (None, ["c"]))
        chase = TeamChase(Web(["a", "b", "c"]))
        self.assertEqual((chase.left(), chase.best()), (None, posts(chase.web)))

    def test_the_running_turn_counts_no_more(self):
        chase = chase_with(long_row(7), ("a", "a"), "g")
        self.assertEqual((chase.left(), chase.best()), (6, [("a", "b"), ("b", "b")]))
        chase.move(("a", "b"))
        self.assertEqual((chase.who, chase.left(), chase.best()), ("runner", 5, ["f", "g"]))
        chase.undo(1)
        chase.move(("a", "a"))
        self.assertEqual((chase.who, chase.left(), chase.best()), ("runner", 6, ["f", "g"]))

    def test_web_of_one_place(self):
        chase = TeamChase(Web(["x"]))
        self.assertEqual(look(chase)[1:], (None, None, 0, "guards", 0, [("x", "x")]))
        chase.move(("x", "x"))
        self.assertEqual(look(chase)[1:], (("x", "x"), None, 0, "runner", 0, ["x"]))
        chase.move("x")
        self.assertEqual(look(chase)[1:], (("x", "x"), "x", 0, "none", 0, []))


class Moves(unittest.TestCase):
    def test_who_is_to_move(self):
        chase = TeamChase(row_web())
        self.assertEqual(look(chase)[:5], (row_web(), None, None, 0, "guards"))
        for move, expected in ((("a", "a"), (("a", "a"), None, 0, "runner")), ("c", (("a", "a"), "c", 0, "guards")),
                               (("a", "a"), (("a", "a"), "c", 1, "runner")), ("c", (("a", "a"), "c", 1, "guards")),
                               (("a", "b"), (("a", "b"), "c", 2, "runner")), ("c", (("a", "b"), "c", 2, "guards")),
                               (("b", "c"), (("b", "c"), "c", 3, "none"))):
            self.assertIs(chase.move(move), None)
            self.assertEqual(look(chase)[1:5], expected)

    def test_what_can_be_moved_to(self):
        for web in [*all_webs(3), ring_web(), web_of_parts(3, 1)]:
            for chase in all_stands(web):
                for choice in [*web.places, *posts(web)]:
                    self.assert_move(chase, choice)

    def assert_move(self, chase, choice):
        web, post, runner, turns, who = look(chase)[:5]
        choosing = post is None or runner is None
        if who == "guards":
            possible = choice in (posts(web) if choosing else seen_posts(web, post))
            caught = not choosing and runner in choice
            expected = (choice, runner, turns + (not choosing), "none" if caught else "runner")
        else:
            possible = who == "runner" and choice in (web.places if choosing else web.sees(runner))
            expected = (post, choice, turns, "none" if post and choice in post else "guards")
        ahead = chase.fork()
        if possible:
            ahead.move(choice)
            self.assertEqual(look(ahead)[1:5], expected)
            return
        with self.assertRaises(BadMove) as raised:
            ahead.move(choice)
        self.assertIs(raised.exception.value, choice)
        self.assertEqual(look(ahead), look(chase))

    def test_caught_by_its_own_choice(self):
        for runner in "bd":
            chase = chase_with(ring_web(), ("b", "d"), runner)
            self.assertEqual(look(chase)[1:], (("b", "d"), runner, 0, "none", 0, []))
            for choice in [*"abcd", *posts(ring_web())]:
                with self.assertRaises(BadMove):
                    chase.move(choice)

    def test_caught_by_its_own_move(self):
        chase = chase_with(long_row(5), ("a", "a"), "d", ("a", "b"), "c", ("b", "b"), "b")
        self.assertEqual(look(chase)[1:], (("b", "b"), "b", 2, "none", 0, []))

    def test_any_value(self):
        web = ring_web()
        for moves in ((), (("a", "b"),), (("a", "a"), "c"), (("a", "a"), "c", ("a", "b")), (("a", "c"), "a")):
            chase = chase_with(web, *moves)
            before = look(chase)
            for value in [*any_values(), *no_names()[:-3], ["a"], ["a", "b"], ("b", "a"), ("d", "a"), ("c", "d", "a"),
                          ("a",), ("a", "q"), (("a", "b"),), ("a", None), ("e", "e"), TeamChase(web), Chase(web),
                          BadPost(1), BadTie("a"), web, chase]:
                with self.assertRaises(BadMove) as caught:
                    chase.move(value)
                self.assertIs(caught.exception.value, value)
                self.assertEqual(look(chase), before)
            with self.assertRaises(TooFar) as caught:
                chase.undo(len(moves) + 1)
            self.assertEqual(caught.exception.count, len(moves))
            chase.undo(len(moves))
            self.assertEqual(chase, TeamChase(web))

    def test_the_error_is_a_web_error(self):
        with self.assertRaises(WebError):
            TeamChase(row_web()).move("a")


class Undo(unittest.TestCase):
    def test_each_number(self):
        moves = [("a", "b"), "f", ("a", "c"), "e", ("b", "c"), "f", ("c", "c"), "e", ("d", "d"), "d"]
        row = long_row(6)
        looks_then = [look(chase_with(row, *moves[:done])) for done in range(len(moves) + 1)]
        self.assertEqual(looks_then[-1][1:5], (("d", "d"), "d", 4, "none"))
        for number in range(len(moves) + 1):
            chase = chase_with(row, *moves)
            self.assertIs(chase.undo(number), None)
            self.assertEqual(look(chase), looks_then[len(moves) - number])
            for move in moves[len(moves) - number:]:
                chase.move(move)
            self.assertEqual(look(chase), looks_then[-1])

    def test_too_far(self):
        for moves in ((), (("a", "a"),), (("a", "b"), "b"), (("a", "a"), "c", ("a", "b")),
                      (("a", "a"), "c", ("b", "b"), "b")):
            for more in (1, 2, 100, 10 ** 59):
                chase = chase_with(row_web(), *moves)
                before = look(chase)
                with self.assertRaises(TooFar) as caught:
                    chase.undo(len(moves) + more)
                self.assertEqual(caught.exception.count, len(moves))
                self.assertEqual(look(chase), before)
                chase.undo(len(moves))
                self.assertEqual(look(chase), look(TeamChase(row_web())))

    def test_failed_moves_are_no_moves(self):
        chase = chase_with(ring_web(), ("a", "a"), "c")
        for wrong in ("c", ("c", "c"), ("b", "a"), None):
            with self.assertRaises(BadMove):
                chase.move(wrong)
        chase.undo(0)
        chase.undo(1)
        self.assertEqual(look(chase), look(chase_with(ring_web(), ("a", "a"))))
        with self.assertRaises(TooFar) as caught:
            chase.undo(2)
        self.assertEqual(caught.exception.count, 1)


class Fork(unittest.TestCase):
    def test_a_fork_goes_its_own_way(self):
        chase = chase_with(long_row(5), ("a", "a"), "e", ("a", "b"))
        fork = chase.fork()
        self.assertIs(fork.__class__, TeamChase)
        self.assertEqual((fork, look(fork)), (chase, look(chase)))
        before = look(chase)
        fork.move("d")
        self.assertEqual(look(chase), before)
        self.assertNotEqual(fork, chase)
        fork.undo(4)
        self.assertEqual((look(fork), look(chase)), (look(TeamChase(long_row(5))), before))
        again = chase.fork()
        chase.undo(2)
        self.assertEqual(look(again), before)
        again.undo(2)
        self.assertEqual(look(again), look(chase))

    def test_the_same_moves_to_take_back(self):
        for chase in all_stands(row_web()):
            fork = chase.fork()
            with self.assertRaises(TooFar) as caught:
                chase.undo(100)
            count = caught.exception.count
            with self.assertRaises(TooFar) as caught:
                fork.undo(100)
            self.assertEqual(caught.exception.count, count)
            for _ in range(count):
                chase.undo(1)
                fork.undo(1)
                self.assertEqual(look(fork), look(chase))


class Equality(unittest.TestCase):
    def test_all_stands(self):
        chases = [chase for web in (row_web(), full_web(2)) for chase in all_stands(web)]
        shown = [(chase.web, chase.post, chase.runner, chase.who) for chase in chases]
        for one, first in zip(chases, shown):
            for other, second in zip(chases, shown):
                self.assertIs(one == other, first == second)
                self.assertIs(one != other, first != second)

    def test_turns_and_moves_do_not_count(self):
        one = chase_with(ring_web(), ("a", "a"), "c")
        other = chase_with(ring_web(), ("a", "b"), "c", ("a", "a"), "c")
        self.assertEqual((one.turns, other.turns), (0, 1))
        self.assertTrue(one == other)
        other.move(("a", "d"))
        self.assertFalse(one == other)

    def test_equal_webs(self):
        web = web_of_parts(4, 2)
        other = renamed(web, web.places, [0, 1, 2, 3, 4, 5])
        self.assertEqual(web, other)
        for post in posts(web):
            self.assertEqual(chase_with(web, post, "c"), chase_with(other, post, "c"))
        self.assertNotEqual(TeamChase(web), TeamChase(web.without(["e"])))
        self.assertNotEqual(TeamChase(web), TeamChase(web.tied([("a", "c")])))
        turned = renamed(web, web.places, [5, 4, 3, 2, 1, 0])
        self.assertEqual(chase_with(web, ("a", "a"), "c"), chase_with(turned, ("a", "a"), "c"))

    def test_any_value(self):
        for moves in ((), (("a", "a"), "c"), (("a", "a"), "a")):
            chase = chase_with(row_web(), *moves)
            for value in [*any_values(), row_web(), "a", ("a", "a"), look(chase), [chase], (chase,), TeamChase,
                          Chase(row_web())]:
                self.assertIs(chase == value, False)
                self.assertIs(value == chase, False)
                self.assertIs(chase != value, True)
            self.assertIs(chase == chase.fork(), True)


class Calls(unittest.TestCase):
    def test_the_same_call_again_and_new_lists(self):
        for web in (row_web(), ring_web(), Web(["a", "b", "c"])):
            for chase in all_stands(web):
                before = look(chase)
                chase.best().append("q")
                chase.best().clear()
                self.assertEqual(look(chase), before)

    def test_the_web_stays(self):
        for web in (row_web(), ring_of(10)):
            before = looks(web)
            chase = chase_with(web, ("a", "a"), "c")
            chase.move(chase.best()[0])
            chase.undo(2)
            self.assertEqual((looks(web), looks(chase.web)), (before, before))

    def test_ranks_are_reckoned_once(self):
        web = ring_of(6)
        with mock.patch.object(games, "rank_rounds", wraps=games.rank_rounds) as reckoned:
            for chase in [*all_stands(web), TeamChase(web)]:
                look(chase)
            team_ranks(web)
            self.assertEqual(reckoned.call_count, 1)

    def test_arguments_by_name(self):
        chase = TeamChase(web=row_web())
        chase.move(value=("a", "b"))
        chase.undo(number=1)
        self.assertEqual(chase, TeamChase(row_web()))

    def test_properties_are_only_read(self):
        chase = chase_with(row_web(), ("a", "a"), "c")
        for name in ("web", "post", "runner", "turns", "who"):
            self.assertIsInstance(getattr(TeamChase, name), property)
            with self.assertRaises(AttributeError):
                setattr(chase, name, None)

    def test_mixed_plays(self):
        mixed = Mixed()
        for web in [*some_webs(6, 10), web_of_parts(3, 3), Web(list(LETTERS[:4]))]:
            rules, ranks = Team(web), team_ranks(web)
            chase, past = TeamChase(web), []
            for _ in range(60):
                if past and (chase.who == "none" or mixed.below(6) == 0):
                    number = 1 + mixed.below(len(past))
                    chase.undo(number)
                    self.assertEqual(look(chase), past[-number])
                    past = past[:-number]
                else:
                    past.append(look(chase))
                    choices = {"guards": rules.stands, "runner": rules.places}[chase.who]
                    if chase.runner is not None:
                        choices = rules.ways(chase.post) if chase.who == "guards" else web.sees(chase.runner)
                    chase.move(mixed.of(choices))
                self.assertEqual((chase.left(), chase.best()), answers_by_the_rules(rules, ranks, chase, chase.post))


if __name__ == "__main__":
    unittest.main()

"""Tests of cornerturn.pieces."""

import unittest
from math import comb

from cornerturn.errors import BadPiece, BadTie, HasGlue, TooMany, WebError
from cornerturn.pieces import enough, is_piece, places_of, ties_of, turns_of, web_of
from cornerturn.ranks import turns_needed
from cornerturn.reckoning import greatest_rank, least_rank, rank_rounds, rank_rows
from cornerturn.webs import Web
from samples import (LETTERS, Mixed, any_values, can_be_taken_apart, deep_tuple, full_web, long_row, ring_of, ring_web,
                     row_web)

LARGE = 10 ** 59 + 7
FUNCTIONS = (places_of, ties_of, enough, turns_of, web_of)


def net_by_the_rules(piece):
    """Return (places, ties): how many places a piece has, and the set of its ties, as point [11] says it."""
    word = piece[0]
    if word == "row":
        return piece[1], {(at, at + 1) for at in range(piece[1] - 1)}
    if word == "ring":
        return piece[1], {(at, at + 1) for at in range(piece[1] - 1)} | {(0, piece[1] - 1)}
    if word == "full":
        return piece[1], {(one, other) for one in range(piece[1]) for other in range(one + 1, piece[1])}
    (many, ties), (more, others) = net_by_the_rules(piece[1]), net_by_the_rules(piece[2])
    if word == "glue":
        return many + more - 1, ties | {(many - 1 + one, many - 1 + other) for one, other in others}
    if word == "join":
        between = {(one, many + other) for one in range(many) for other in range(more)}
        return many + more, ties | between | {(many + one, many + other) for one, other in others}
    couples = [(one, other) for one in range(many) for other in range(more)]
    return many * more, {(at, to) for at, (one, other) in enumerate(couples) for to, (here, there) in enumerate(couples)
                         if at < to and sees(ties, one, here) and sees(others, other, there)}


def sees(ties, one, other):
    return one == other or (one, other) in ties or (other, one) in ties


def turns_of_net(many, ties):
    """Return the turns that a net of any number of places needs, by its ranks."""
    seen = [[other for other in range(many) if sees(ties, one, other)] for one in range(many)]
    steps = [sum(1 << other for other in row) for row in seen]
    rows = rank_rows(rank_rounds(seen, [1 << at for at in range(many)], [steps] * many), many)
    return least_rank([greatest_rank(row) for row in rows])


def has_glue(piece):
    return piece[0] == "glue" or any(has_glue(part) for part in piece[1:] if isinstance(part, tuple))


def simple_pieces(most):
    return [(word, many) for word in ("row", "ring", "full") for many in range(3 if word == "ring" else 1, most + 1)]


def pieces_up_to(most, depth):
    """Return the list of all pieces of so many places, and so deep, at most."""
    found = simple_pieces(most)
    for _ in range(depth - 1):
        sized = [(piece, net_size(piece)) for piece in found]
        found = simple_pieces(most)
        for one, many in sized:
            for other, more in sized:
                sizes = {"glue": many + more - 1, "join": many + more, "times": many * more}
                found += [(word, one, other) for word in sizes if sizes[word] <= most]
    return found


def net_size(piece):
    return net_by_the_rules(piece)[0]


def mixed_piece(mixed, depth, most):
    """Return a piece that is so deep; one of its parts may be less deep."""
    if depth == 1:
        word = mixed.of(["row", "ring", "full"])
        return word, (3 if word == "ring" else 1) + mixed.below(most)
    parts = [mixed_piece(mixed, depth - 1, most), mixed_piece(mixed, 1 + mixed.below(depth - 1), most)]
    first = mixed.below(2)
    return mixed.of(["glue", "join", "times"]), parts[first], parts[1 - first]


def as_deep_as(depth, word="times", leaf=("row", 2)):
    piece = leaf
    for _ in range(depth - 1):
        piece = (word, piece, piece)
    return piece


def one_sided(depth, word, first):
    """Return a piece that is so deep, in its first parts or in its second ones."""
    piece = ("row", 1)
    for _ in range(depth - 1):
        piece = (word, piece, ("full", 1)) if first else (word, ("full", 1), piece)
    return piece


def wrong_pieces():
    """Return values of all kinds that are no pieces."""
    numbers = [0, -1, -10 ** 59, True, False, None, "1", "", "row", [1], (1,), (), {}, {1: 1}, ("row", 1), Web(["a"])]
    found = [(word, number) for word in ("row", "ring", "full") for number in numbers]
    found += [("ring", 1), ("ring", 2)]
    found += [("row",), ("row", 1, 1), ("ring", 3, 3), ("full", 2, ("row", 1)), ("row", 1, ("row", 1)), ["row", 1]]
    good = ("row", 2)
    for word in ("glue", "join", "times"):
        found += [(word,), (word, good), (word, good, good, good), (word, 1), (word, 1, 1), [word, good, good]]
        for wrong in [*any_values(), *numbers[:-2], list(good), ("row", 0), ("rows", 1), (good,), [good], good + good]:
            found += [(word, good, wrong), (word, wrong, good), (word, (word, good, wrong), good)]
        found += [as_deep_as(7, word), as_deep_as(12, word), one_sided(7, word, True), one_sided(7, word, False)]
        found += [one_sided(30, word, True), one_sided(30, word, False)]
    for word in ["Row", "rows", "", " row", "row ", "rin", "glued", "time", "row\n", "place", None, True, 1, ("row",),
                 ["row"], {"row": 1}, {}, Web(["a"])]:
        found += [(word, 3), (word, good, good), (word, good), (word,)]
    return [*found, (3, "row"), (good, "glue", good), deep_tuple(30), (), *any_values()]


class Examples(unittest.TestCase):
    def test_examples_of_the_document(self):
        self.assertEqual([is_piece(("row", 10 ** 50)), is_piece(("ring", 2))], [True, False])
        self.assertEqual(web_of(("ring", 4)), ring_web())
        self.assertIs(enough(("glue", ("row", 5), ("full", 9))), True)
        self.assertEqual([turns_of(("row", 9)), turns_of(("times", ("row", 5), ("row", 8)))], [4, 4])
        self.assertIs(turns_of(("ring", 9)), None)
        self.assertEqual(turns_of(("join", ("ring", 9), ("row", 2))), 1)
        piece = ("times", ("row", 3), ("ring", 4))
        self.assertEqual([places_of(piece), ties_of(piece)], [12, 36])
        self.assertEqual(web_of(("glue", ("row", 2), ("row", 2))), row_web())


class IsPiece(unittest.TestCase):
    def test_pieces(self):
        for piece in [*pieces_up_to(4, 3), *simple_pieces(12), ("row", LARGE), ("ring", LARGE), ("full", LARGE)]:
            self.assertIs(is_piece(piece), True)
        for word in ("glue", "join", "times"):
            for depth in range(1, 7):
                for piece in (as_deep_as(depth, word), one_sided(depth, word, True), one_sided(depth, word, False)):
                    self.assertIs(is_piece(piece), True)

    def test_all_other_values(self):
        for value in wrong_pieces():
            with self.subTest(repr(value)):
                self.assertIs(is_piece(value), False)

    def test_lists_in_the_place_of_tuples(self):
        for value in (["row", 2], ("glue", ["row", 2], ("row", 2)), ("glue", ("row", 2), ["row", 2]), [("row", 2)],
                      ("times", ("join", ("row", 2), ["full", 2]), ("row", 1))):
            self.assertIs(is_piece(value), False)

    def test_a_part_that_is_changed(self):
        self.assertIs(is_piece(("join", ("ring", 3), ("row", 1))), True)
        for wrong in (("join", ("ring", 2), ("row", 1)), ("join", ("ring", 3), ("row", 0)),
                      ("join", ("ring", 3), ("row", True)), ("joint", ("ring", 3), ("row", 1)),
                      ("join", ("row", 1)), ("join", ("ring", 3), ("row", 1), 1), (("ring", 3), "join", ("row", 1)),
                      ("join", ("ring", 3), ("row",)), ("join", ("ring", 3), ("row", 1, 1)), ("join", "ring", 3),
                      ("join", ("ring", 3), (1, "row")), ("row", ("ring", 3), ("row", 1))):
            self.assertIs(is_piece(wrong), False)


class Counts(unittest.TestCase):
    def assert_counts(self, piece):
        many, ties = net_by_the_rules(piece)
        self.assertEqual((places_of(piece), ties_of(piece)), (many, len(ties)), piece)

    def test_all_small_pieces(self):
        for piece in [*pieces_up_to(12, 2), *pieces_up_to(4, 3)]:
            self.assert_counts(piece)

    def test_mixed_pieces(self):
        mixed = Mixed()
        for _ in range(400):
            piece = mixed_piece(mixed, 2 + mixed.below(4), 3)
            if places_of(piece) <= 40:
                self.assert_counts(piece)

    def test_large_numbers_are_exact(self):
        row, ring, full = ("row", LARGE), ("ring", LARGE), ("full", LARGE)
        self.assertEqual([places_of(piece) for piece in (row, ring, full)], [LARGE] * 3)
        self.assertEqual([ties_of(piece) for piece in (row, ring, full)], [LARGE - 1, LARGE, comb(LARGE, 2)])
        for one, other in ((row, ring), (full, full), (ring, full), (row, row), (full, ("row", 1))):
            many, more, ties, others = places_of(one), places_of(other), ties_of(one), ties_of(other)
            self.assertEqual(places_of(("glue", one, other)), many + more - 1)
            self.assertEqual(ties_of(("glue", one, other)), ties + others)
            self.assertEqual(places_of(("join", one, other)), many + more)
            self.assertEqual(ties_of(("join", one, other)), ties + others + many * more)
            self.assertEqual(places_of(("times", one, other)), many * more)
            # Each place sees itself, and each tie is seen from both sides.
            seen = (many + 2 * ties) * (more + 2 * others)
            self.assertEqual(2 * ties_of(("times", one, other)), seen - many * more)

    def test_six_deep_with_large_numbers(self):
        full = as_deep_as(6, "times", ("full", LARGE))
        self.assertEqual([places_of(full), ties_of(full)], [LARGE ** 32, comb(LARGE ** 32, 2)])
        full = as_deep_as(6, "join", ("full", LARGE))
        self.assertEqual([places_of(full), ties_of(full)], [LARGE * 32, comb(LARGE * 32, 2)])
        rows = as_deep_as(6, "glue", ("row", LARGE))
        self.assertEqual([places_of(rows), ties_of(rows)], [LARGE * 32 - 31, LARGE * 32 - 32])
        rings = as_deep_as(6, "times", ("ring", LARGE))
        self.assertEqual([places_of(rings), ties_of(rings)], [LARGE ** 32, LARGE ** 32 * (3 ** 32 - 1) // 2])

    def test_one_place(self):
        for piece in (("row", 1), ("full", 1), as_deep_as(6, "times", ("row", 1)), as_deep_as(6, "glue", ("full", 1))):
            self.assertEqual([places_of(piece), ties_of(piece), enough(piece)], [1, 0, True])


class Enough(unittest.TestCase):
    def test_all_small_pieces(self):
        for piece in [*pieces_up_to(12, 2), *pieces_up_to(4, 3)]:
            self.assertIs(enough(piece), can_be_taken_apart(web_of(piece)), piece)

    def test_mixed_pieces(self):
        mixed = Mixed()
        found = {True: 0, False: 0}
        for _ in range(500):
            piece = mixed_piece(mixed, 2 + mixed.below(4), 4)
            if places_of(piece) <= 30:
                expected = turns_of_net(*net_by_the_rules(piece)) is not None
                self.assertIs(enough(piece), expected, piece)
                found[expected] += 1
        self.assertGreater(min(found.values()), 50)

    def test_large_numbers(self):
        row, ring, full = ("row", LARGE), ("ring", LARGE), ("full", LARGE)
        self.assertEqual([enough(piece) for piece in (row, ring, full, ("ring", 3), ("ring", 4))],
                         [True, False, True, True, False])
        for word in ("glue", "times"):
            self.assertEqual([enough((word, row, full)), enough((word, row, ring)), enough((word, ring, full)),
                              enough((word, ring, ring))], [True, False, False, False])
        self.assertEqual([enough(("join", row, full)), enough(("join", row, ring)), enough(("join", ring, full)),
                          enough(("join", ring, ring))], [True, True, True, False])
        self.assertEqual([enough(as_deep_as(6, "times", row)), enough(as_deep_as(6, "join", ring))], [True, False])
        self.assertIs(enough(("join", as_deep_as(5, "join", ring), ("glue", row, full))), True)


class TurnsOf(unittest.TestCase):
    def test_all_small_pieces(self):
        for piece in [*pieces_up_to(12, 2), *pieces_up_to(4, 3)]:
            if not has_glue(piece):
                self.assertEqual(turns_of(piece), turns_needed(web_of(piece)), piece)

    def test_mixed_pieces(self):
        mixed = Mixed()
        found = {}
        for _ in range(2500):
            piece = mixed_piece(mixed, 2 + mixed.below(4), 6)
            if not has_glue(piece) and places_of(piece) <= 40:
                expected = turns_of_net(*net_by_the_rules(piece))
                self.assertEqual(turns_of(piece), expected, piece)
                found[expected] = found.get(expected, 0) + 1
        for turns in (None, 1, 2, 3):
            self.assertGreater(found[turns], 10)

    def test_simple_pieces(self):
        self.assertEqual([turns_of(("row", many)) for many in range(1, 10)], [0, 1, 1, 2, 2, 3, 3, 4, 4])
        self.assertEqual([turns_of(("ring", many)) for many in range(3, 7)], [1, None, None, None])
        self.assertEqual([turns_of(("full", many)) for many in range(1, 5)], [0, 1, 1, 1])
        self.assertEqual([turns_of(("row", LARGE)), turns_of(("full", LARGE)), turns_of(("ring", LARGE))],
                         [LARGE // 2, 1, None])

    def test_joins(self):
        ring = ("ring", LARGE)
        self.assertEqual(turns_of(("join", ("row", 1), ("row", 1))), 1)
        self.assertEqual(turns_of(("join", ("row", 9), ring)), 4)
        self.assertEqual(turns_of(("join", ring, ("row", 9))), 4)
        self.assertEqual(turns_of(("join", ("row", 9), ("row", 6))), 3)
        self.assertEqual(turns_of(("join", ("row", LARGE), ("full", 1))), 1)
        self.assertEqual(turns_of(("join", ("row", LARGE), ("row", LARGE + 10))), LARGE // 2)
        self.assertIs(turns_of(("join", ring, ring)), None)

    def test_products(self):
        self.assertEqual(turns_of(("times", ("row", 1), ("full", 1))), 0)
        self.assertEqual(turns_of(("times", ("row", 1), ("full", 2))), 1)
        self.assertEqual(turns_of(("times", ("row", 8), ("row", LARGE))), LARGE // 2)
        self.assertIs(turns_of(("times", ("row", 8), ("ring", 4))), None)
        self.assertIs(turns_of(("times", ("ring", LARGE), ("row", 1))), None)
        self.assertEqual(turns_of(as_deep_as(6, "times", ("row", LARGE))), LARGE // 2)
        self.assertIs(turns_of(as_deep_as(6, "times", ("ring", LARGE))), None)

    def test_pieces_with_glue(self):
        glue = ("glue", ("row", 2), ("row", 2))
        for piece in (glue, ("join", glue, ("row", 1)), ("times", ("row", 1), glue), as_deep_as(6, "glue"),
                      ("glue", ("ring", 9), ("ring", LARGE)), ("join", ("row", 1), ("times", ("ring", 4), glue)),
                      as_deep_as(5, "times", glue), as_deep_as(5, "join", glue)):
            with self.assertRaises(HasGlue) as caught:
                turns_of(piece)
            self.assertIs(caught.exception.piece, piece)
            self.assertIn(enough(piece), (True, False))


class WebOf(unittest.TestCase):
    def assert_web(self, piece):
        many, ties = net_by_the_rules(piece)
        web = web_of(piece)
        self.assertIs(web.__class__, Web)
        self.assertEqual(web.places, tuple(LETTERS[:many]))
        found = {tuple(sorted(LETTERS.index(place) for place in tie)) for tie in web.ties}
        self.assertEqual((found, len(web.ties)), (ties, len(ties)), piece)
        self.assertEqual((places_of(piece), ties_of(piece)), (len(web.places), len(web.ties)))

    def test_all_small_pieces(self):
        for piece in [*pieces_up_to(12, 2), *pieces_up_to(4, 3)]:
            self.assert_web(piece)

    def test_mixed_pieces(self):
        mixed = Mixed()
        for _ in range(1500):
            piece = mixed_piece(mixed, 2 + mixed.below(5), 3)
            if places_of(piece) <= 12:
                self.assert_web(piece)

    def test_known_webs(self):
        for many in range(1, 13):
            self.assertEqual(web_of(("row", many)), long_row(many))
            self.assertEqual(web_of(("full", many)), full_web(many))
            if many > 2:
                self.assertEqual(web_of(("ring", many)), ring_of(many))
        self.assertEqual(web_of(("glue", ("ring", 3), ("row", 2))),
                         Web(list("abcd"), [("a", "b"), ("b", "c"), ("a", "c"), ("c", "d")]))
        self.assertEqual(web_of(("join", ("row", 2), ("row", 1))), full_web(3))
        ladder = [("a", "b"), ("c", "d"), ("e", "f"), ("a", "c"), ("b", "d"), ("c", "e"), ("d", "f"), ("a", "d"),
                  ("b", "c"), ("c", "f"), ("d", "e")]
        self.assertEqual(web_of(("times", ("row", 3), ("row", 2))), Web(list("abcdef"), ladder))

    def test_too_many_places(self):
        for piece, count in ((("row", 13), 13), (("full", LARGE), LARGE), (("ring", 10 ** 59), 10 ** 59),
                             (("glue", ("row", 7), ("row", 7)), 13), (("join", ("row", 6), ("ring", 7)), 13),
                             (("times", ("row", 2), ("row", 7)), 14), (as_deep_as(6, "times"), 2 ** 32),
                             (as_deep_as(6, "times", ("full", LARGE)), LARGE ** 32), (as_deep_as(6, "glue"), 33)):
            with self.assertRaises(TooMany) as caught:
                web_of(piece)
            self.assertEqual(caught.exception.count, count)
        for piece in (("row", 12), ("glue", ("row", 7), ("row", 6)), ("join", ("row", 6), ("ring", 6)),
                      ("times", ("row", 2), ("row", 6)), as_deep_as(6, "times", ("row", 1))):
            self.assert_web(piece)


class AnyValue(unittest.TestCase):
    def test_no_pieces(self):
        for value in wrong_pieces():
            for function in FUNCTIONS:
                with self.subTest(function.__name__, value=repr(value)):
                    with self.assertRaises(BadPiece) as caught:
                        function(value)
                    self.assertIs(caught.exception.value, value)

    def test_bad_piece_is_raised_first(self):
        glue = ("glue", ("row", 2), ("row", 0))
        with self.assertRaises(BadPiece) as caught:
            turns_of(glue)
        self.assertIs(caught.exception.value, glue)
        wide = ("join", ("row", 99), ("ring", 2))
        with self.assertRaises(BadPiece) as caught:
            web_of(wide)
        self.assertIs(caught.exception.value, wide)

    def test_the_errors_are_web_errors(self):
        for wrong in (None, BadTie(0), ("row",)):
            with self.assertRaises(WebError):
                places_of(wrong)

    def test_values_stay(self):
        for value in [*wrong_pieces(), ("times", ("row", 2), ("glue", ("row", 2), ("full", 3)))]:
            before = repr(value)
            is_piece(value)
            for function in FUNCTIONS:
                try:
                    function(value)
                except WebError:
                    pass
            self.assertEqual(repr(value), before)


class Calls(unittest.TestCase):
    def test_kinds_of_answers(self):
        piece = ("join", ("row", 4), ("ring", 5))
        self.assertEqual([function(piece).__class__ for function in FUNCTIONS], [int, int, bool, int, Web])

    def test_the_same_call_again(self):
        for piece in (("times", ("row", 3), ("ring", 4)), ("join", ("row", 2), ("full", 3))):
            for function in FUNCTIONS:
                self.assertEqual(function(piece), function(piece))
            self.assertEqual([web_of(piece).places, web_of(piece).ties], [web_of(piece).places, web_of(piece).ties])

    def test_arguments_by_name(self):
        piece = ("times", ("row", 3), ("full", 2))
        self.assertIs(is_piece(value=piece), True)
        for function in FUNCTIONS:
            self.assertEqual(function(piece=piece), function(piece))


if __name__ == "__main__":
    unittest.main()

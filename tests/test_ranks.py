import copy
import itertools
import random
import unittest

from making import at_once, good_channels, is_ring, next_of, next_two, ring_over, shuffled, some_above
from wirechannel.above import above_of
from wirechannel.pieces import pieces_of
from wirechannel.ranks import chain_of, ranked


# Which pieces must lie, in one step or several, below which.
def beneath(count, above):
    below = [{q for p, q, column in above if p == number} for number in range(count)]
    for middle, upper in itertools.product(range(count), range(count)):
        if middle in below[upper]:
            below[upper] |= below[middle]
    return below


class RankedCase(unittest.TestCase):
    def setUp(self):
        self.enterContext(at_once())

    def asked(self, kind, count, above):
        before = list(above)
        told = ranked(count, above)
        self.assertEqual(above, before)
        self.assertIs(type(told), tuple)
        self.assertEqual((told[0], len(told)), (kind, 2))
        self.assertIs(type(told[1]), list)
        return told[1]

    def check_levels(self, count, above, due=None):
        levels = self.asked("levels", count, above)
        self.assertEqual(len(levels), count)
        for number in range(count):
            uppers = [levels[p] for p, q, column in above if q == number]
            self.assertEqual(levels[number], max(uppers) + 1 if uppers else 0)
        if due is not None:
            self.assertEqual(levels, due)

    def check_ring(self, count, above, length=None):
        ring = self.asked("ring", count, above)
        self.assertTrue(is_ring(ring, above), ring)
        if length is not None:
            self.assertEqual(len(ring), length)
        return ring


class LevelsTest(RankedCase):
    def test_no_pieces(self):
        self.check_levels(0, [], [])

    def test_no_triples(self):
        self.check_levels(1, [], [0])
        self.check_levels(5, [], [0] * 5)
        self.check_levels(120, [], [0] * 120)

    def test_a_chain(self):
        self.check_levels(4, next_of(4), [0, 1, 2, 3])
        self.check_levels(4, [(3, 2, 0), (2, 1, 0), (1, 0, 0)], [3, 2, 1, 0])
        self.check_levels(5, [(3, 0, 4), (0, 4, 4)], [1, 0, 0, 0, 2])

    def test_a_longer_and_a_shorter_way_to_one_piece(self):
        for above in itertools.permutations([(0, 1, 0), (1, 2, 0), (2, 3, 0), (0, 3, 0)]):
            self.check_levels(4, list(above), [0, 1, 2, 3])
        for above in itertools.permutations([(4, 0, 0), (0, 1, 0), (1, 2, 0), (3, 2, 0), (4, 2, 0)]):
            self.check_levels(5, list(above), [1, 2, 3, 0, 0])

    def test_one_above_many_and_many_above_one(self):
        self.check_levels(4, [(3, 0, 1), (3, 1, 1), (3, 2, 1)], [1, 1, 1, 0])
        self.check_levels(4, [(0, 3, 1), (1, 3, 1), (2, 3, 1)], [0, 0, 0, 1])

    def test_one_pair_by_several_columns(self):
        above = [(0, 1, column) for column in range(-1, 41)] + [(1, 2, 0), (1, 2, 5), (0, 1, 0), (0, 2, 3)]
        self.check_levels(3, above, [0, 1, 2])
        self.check_levels(3, shuffled(above), [0, 1, 2])

    def test_in_any_order(self):
        for above in itertools.permutations([(2, 0, 1), (0, 3, 2), (2, 3, 0), (1, 3, 9), (3, 4, 1)]):
            self.check_levels(5, list(above), [1, 0, 0, 2, 3])

    def test_a_hundred_and_twenty_each_above_the_next(self):
        self.check_levels(120, next_of(120), list(range(120)))
        self.check_levels(120, list(reversed(next_of(120))), list(range(120)))
        self.check_levels(120, shuffled(next_of(120)), list(range(120)))
        upwards = [(q, p, column) for p, q, column in next_of(120)]
        self.check_levels(120, upwards, list(reversed(range(120))))

    def test_many_each_above_the_next_two(self):
        for above in (next_two(120), shuffled(next_two(120)), list(reversed(next_two(120)))):
            self.check_levels(120, above, list(range(120)))

    def test_each_above_all_that_follow(self):
        above = [(p, q, 0) for p in range(120) for q in range(p + 1, 120)]
        self.check_levels(120, above, list(range(120)))


class RingTest(RankedCase):
    def test_a_ring_of_one(self):
        self.check_ring(1, [(0, 0, 3)], 1)
        self.check_ring(3, [(0, 1, 3), (1, 1, 2), (1, 2, 3)], 1)
        self.assertEqual(ranked(2, [(1, 1, 7)]), ("ring", [(1, 1, 7)]))

    def test_a_ring_of_two(self):
        self.check_ring(2, [(0, 1, 3), (1, 0, 2)], 2)
        self.check_ring(5, [(4, 2, 3), (2, 4, 3)], 2)

    def test_a_ring_of_two_by_several_columns(self):
        self.check_ring(2, [(0, 1, 3), (1, 0, 2), (0, 1, 4), (1, 0, 9), (0, 1, 3)], 2)

    def test_a_ring_of_three_in_any_order(self):
        for above in itertools.permutations(ring_over([0, 2, 1])):
            self.check_ring(3, list(above), 3)

    def test_a_ring_of_a_hundred_and_twenty(self):
        for numbers in (range(120), reversed(range(120)), shuffled(range(120))):
            above = ring_over(numbers)
            self.check_ring(120, above, 120)
            self.check_ring(120, shuffled(above), 120)

    def test_a_tail_ahead_of_the_ring_and_behind_it(self):
        ring = [(3, 4, 0), (4, 5, 1), (5, 3, 2)]
        ahead = [(0, 1, 0), (1, 2, 0), (2, 3, 0)]
        behind = [(5, 6, 0), (6, 7, 0), (7, 8, 0)]
        for tails in ([], ahead, behind, ahead + behind):
            for seed in range(20):
                self.assertEqual(sorted(self.check_ring(9, shuffled(ring + tails, seed), 3)), ring)

    def test_numbers_of_the_tail_behind_and_ahead_turned_about(self):
        ring = [(3, 4, 0), (4, 5, 1), (5, 3, 2)]
        behind = [(3, 2, 0), (2, 1, 0), (1, 0, 0)]
        ahead = [(8, 7, 0), (7, 6, 0), (6, 5, 0)]
        for seed in range(20):
            self.assertEqual(sorted(self.check_ring(9, shuffled(ring + behind + ahead, seed), 3)), ring)

    def test_long_tails(self):
        above = next_of(119) + [(60, 58, 0), (118, 119, 0)]
        self.assertEqual(sorted(self.check_ring(120, shuffled(above), 3)), [(58, 59, 18), (59, 60, 19), (60, 58, 0)])

    def test_two_rings(self):
        one = ring_over([0, 1, 2])
        other = ring_over([3, 4])
        for between in ([], [(2, 3, 0)], [(4, 0, 0)]):
            for seed in range(20):
                self.check_ring(5, shuffled(one + other + between, seed))

    def test_two_rings_that_share_a_piece_or_a_triple(self):
        for above in itertools.permutations([(0, 1, 0), (1, 0, 0), (1, 2, 0), (2, 1, 0)]):
            self.check_ring(3, list(above), 2)
        for seed in range(20):
            self.check_ring(4, shuffled([(0, 1, 0), (1, 2, 0), (2, 0, 0), (1, 3, 0), (3, 0, 0)], seed), 3)

    def test_each_above_each(self):
        self.check_ring(30, [(p, q, 0) for p in range(30) for q in range(30)])

    def test_many_each_above_the_next_two_and_the_last_above_the_first(self):
        above = next_two(120) + [(119, 0, 0)]
        self.check_ring(120, above)
        self.check_ring(120, shuffled(above))


class RankedAnyTest(RankedCase):
    def test_levels_just_where_no_piece_must_lie_below_itself(self):
        kinds = {"levels": 0, "ring": 0}
        for seed in range(400):
            count = seed % 13
            above = some_above(count, seed)
            with self.subTest(count=count, above=above):
                below = beneath(count, above)
                kind = "ring" if any(number in below[number] for number in range(count)) else "levels"
                kinds[kind] += 1
                if kind == "ring":
                    self.check_ring(count, above)
                else:
                    self.check_levels(count, above)
        self.assertGreater(min(kinds.values()), 50)

    def test_of_channels(self):
        kinds = {"levels": 0, "ring": 0}
        for channel in good_channels(200):
            for bent in (False, True):
                pieces = pieces_of(channel, bent)
                above = above_of(channel, pieces)
                kind = ranked(len(pieces), above)[0]
                kinds[kind] += 1
                if kind == "ring":
                    self.check_ring(len(pieces), above)
                else:
                    self.check_levels(len(pieces), above)
        self.assertGreater(min(kinds.values()), 20)

    def test_asked_again_and_behind_other_questions(self):
        questions = [(seed % 13, some_above(seed % 13, seed)) for seed in range(60)]
        first = [copy.deepcopy(ranked(count, above)) for count, above in questions]
        for count, above in reversed(questions):
            ranked(count, above)[1].clear()
        self.assertEqual([ranked(count, above) for count, above in questions], first)

    def test_what_is_told_is_the_askers(self):
        above = [(0, 1, 0), (1, 0, 0)]
        ranked(2, above)[1].append((5, 5, 5))
        self.assertEqual(above, [(0, 1, 0), (1, 0, 0)])
        self.check_ring(2, above, 2)
        ranked(2, above[:1])[1].append(7)
        self.check_levels(2, above[:1], [0, 1])


def widths(*numbers):
    return [("n" + "abcdefghijklmnopqrstuvwxyz"[place % 26], 0, 3, width) for place, width in enumerate(numbers)]


# The weights of all chains, each gone through by itself.
def all_weights(pieces, above):
    found = [0]

    def go(number, weight):
        weight += pieces[number][3]
        found.append(weight)
        for lower in {q for p, q, column in above if p == number}:
            go(lower, weight)

    for number in range(len(pieces)):
        go(number, 0)
    return found


class ChainTest(unittest.TestCase):
    def setUp(self):
        self.enterContext(at_once())

    def check_chain(self, pieces, above, weight):
        before = (list(pieces), list(above))
        told = chain_of(pieces, above)
        self.assertEqual((pieces, above), before)
        self.assertIs(type(told), tuple)
        self.assertEqual(len(told), 2)
        self.assertEqual(told[0], weight)
        numbers = told[1]
        self.assertIs(type(numbers), list)
        self.assertEqual(sum([pieces[number][3] for number in numbers]), weight)
        pairs = {(p, q) for p, q, column in above}
        for upper, lower in itertools.pairwise(numbers):
            self.assertIn((upper, lower), pairs)
        return numbers

    def test_no_pieces(self):
        self.assertEqual(chain_of([], []), (0, []))

    def test_without_triples_the_widest(self):
        self.assertEqual(chain_of(widths(1), []), (1, [0]))
        self.assertEqual(chain_of(widths(1, 3, 2), []), (3, [1]))
        self.assertEqual(chain_of(widths(2, 1, 1), []), (2, [0]))
        self.check_chain(widths(2, 2, 1), [], 2)

    def test_the_pieces_above_come_first(self):
        self.assertEqual(chain_of(widths(1, 1, 1), [(2, 0, 4), (0, 1, 3)]), (3, [2, 0, 1]))

    def test_a_longer_chain_that_weighs_less(self):
        above = [(0, 1, 0), (1, 2, 0), (2, 3, 0), (4, 5, 0)]
        self.assertEqual(chain_of(widths(1, 1, 1, 1, 3, 2), above), (5, [4, 5]))
        self.assertEqual(chain_of(widths(1, 1, 1, 2, 3, 1), above), (5, [0, 1, 2, 3]))

    def test_a_longer_way_that_weighs_less_to_the_same_piece(self):
        above = [(0, 1, 0), (1, 2, 0), (2, 5, 0), (3, 5, 0), (5, 4, 0)]
        self.check_chain(widths(1, 1, 1, 3, 1, 1), above, 5)
        self.assertEqual(chain_of(widths(1, 1, 1, 2, 1, 1), above), (5, [0, 1, 2, 5, 4]))
        above = [(0, 1, 0), (1, 2, 0), (3, 2, 0)]
        self.assertEqual(chain_of(widths(1, 1, 2, 3), above), (5, [3, 2]))

    def test_the_widest_piece_is_not_in_the_chain(self):
        above = [(0, 1, 0), (1, 2, 0), (2, 3, 0)]
        self.assertEqual(chain_of(widths(1, 1, 1, 1, 3), above), (4, [0, 1, 2, 3]))

    def test_the_widest_alone_weighs_more_than_any_chain_of_two(self):
        self.assertEqual(chain_of(widths(1, 1, 3), [(0, 1, 0)]), (3, [2]))

    def test_one_pair_by_several_columns_counts_once(self):
        self.assertEqual(chain_of(widths(2, 1), [(0, 1, column) for column in range(-1, 41)]), (3, [0, 1]))

    def test_several_chains_that_weigh_the_same(self):
        self.check_chain(widths(1, 2, 2, 1), [(0, 1, 0), (2, 3, 0)], 3)
        self.check_chain(widths(1, 2, 2, 1), [(0, 1, 0), (0, 2, 0), (1, 3, 0), (2, 3, 0)], 4)

    def test_keeps_weigh_too(self):
        pieces = [(None, 0, 3, 3), ("a", 0, 2, 1), ("b", 1, 3, 2)]
        self.assertEqual(chain_of(pieces, [(0, 1, 0), (0, 2, 1), (1, 2, 1)]), (6, [0, 1, 2]))

    def test_against_all_chains(self):
        checked = 0
        for seed in range(500):
            count = seed % 10
            above = some_above(count, seed)
            if ranked(count, above)[0] == "levels":
                checked += 1
                chance = random.Random(seed)
                pieces = widths(*[chance.randint(1, 3) for number in range(count)])
                with self.subTest(pieces=pieces, above=above):
                    self.check_chain(pieces, above, max(all_weights(pieces, above)))
        self.assertGreater(checked, 200)

    def test_of_channels(self):
        checked = 0
        for channel in good_channels(200):
            for bent in (False, True):
                pieces = pieces_of(channel, bent)
                above = above_of(channel, pieces)
                if len(pieces) < 16 and ranked(len(pieces), above)[0] == "levels":
                    checked += 1
                    self.check_chain(pieces, above, max(all_weights(pieces, above)))
        self.assertGreater(checked, 50)

    def test_sixty_each_above_the_next_two(self):
        pieces = widths(*[1 + number % 3 for number in range(60)])
        for above in (next_two(60), shuffled(next_two(60))):
            self.assertEqual(self.check_chain(pieces, above, 120), list(range(60)))

    def test_a_hundred_and_twenty_each_above_the_next(self):
        pieces = widths(*[3] * 120)
        for above in (shuffled(next_of(120)), next_two(120)):
            self.assertEqual(self.check_chain(pieces, above, 360), list(range(120)))

    def test_what_is_told_is_the_askers_and_asked_again_it_fits_again(self):
        pieces = widths(1, 2, 1)
        above = [(0, 1, 0), (1, 2, 0)]
        chain_of(pieces, above)[1].append(9)
        chain_of([], [])[1].append(9)
        self.assertEqual(chain_of(pieces[:2], []), (2, [1]))
        self.assertEqual(chain_of([], []), (0, []))
        self.assertEqual(chain_of(pieces, above), (4, [0, 1, 2]))


if __name__ == "__main__":
    unittest.main()

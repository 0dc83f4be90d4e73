import itertools
import random
import unittest

from sidebook.worth import View, paper, stands_up, worth

LOOK = 10
EVERY = 3


def view_of(pots, words=(), every=EVERY, look=LOOK):
    return View(every, look, list(words), pots)


def pays(amount, word, day, side=0, share=0):
    """A stand whose hand has this side and pays a tie."""
    return (1, shares_for(side, share), ((side, amount, word, day),))


def gets(amount, word, day, side=0, share=0):
    return (1, shares_for(side, share), ((1 - side, amount, word, day),))


def shares_for(side, share):
    return (share, 1000) if side == 0 else (1000, share)


def worth_of(stand, words=(), seen=None, side=0, every=EVERY, look=LOOK):
    return worth(view_of([(side, [stand], seen or {})], words, every, look))


def slow_lot(view_parts, side, seen, tie):
    every, look, words, pots = view_parts
    payer, amount, word, day = tie
    in_time = word in seen and seen[word] < day
    if payer == side:
        return "lost" if in_time else "back" if look >= day else "open"
    if in_time:
        return "won"
    if look >= day:
        return "gone"
    return "sure" if word in words and look + every < day else "hangs"


def slow_ways(view_parts):
    """Each way to choose stands and fates, with its sum, word for word by points 24 and 25."""
    every, look, words, pots = view_parts
    for chosen in itertools.product(*[range(len(pot[1])) for pot in pots]):
        ties = []
        shares = 0
        for place, (side, stands, seen) in zip(chosen, pots):
            shares += stands[place][1][side]
            ties += [(slow_lot(view_parts, side, seen, tie), tie) for tie in stands[place][2]]
        tied = sorted({tie[2] for lot, tie in ties})
        fates = [[None] + sorted({tie[3] for lot, tie in ties if tie[2] == word and lot == "open"}) for word in tied]
        for picked in itertools.product(*fates):
            fate = dict(zip(tied, picked))
            yield list(chosen), fate, shares + sum(slow_part(every, lot, tie, fate[tie[2]]) for lot, tie in ties)


def slow_part(every, lot, tie, fate):
    if lot in ("won", "sure", "back"):
        return tie[1]
    if lot == "open" and (fate is None or fate > tie[3]):
        return tie[1]
    if lot == "hangs" and fate is not None and fate - 1 + every < tie[3]:
        return tie[1]
    return 0


def some_views(count, most_stands, most_ties, words, seed):
    chance = random.Random(seed)
    for _ in range(count):
        every = chance.randint(1, 6)
        look = chance.randint(0, 12)
        pots = []
        for _ in range(chance.randint(0, 3)):
            stands = []
            for number in range(chance.randint(1, most_stands)):
                tied = chance.sample(range(words), chance.randint(0, most_ties))
                ties = tuple((chance.randint(0, 1), chance.randint(1, 9), word, chance.randint(0, 24)) for word in tied)
                stands.append((number, (chance.randint(0, 20), chance.randint(0, 20)), ties))
            seen = {word: chance.randint(0, look) for word in chance.sample(range(words), chance.randint(0, 1))}
            pots.append((chance.randint(0, 1), stands, seen))
        yield (every, look, chance.sample(range(words), chance.randint(0, 2)), pots)


# the example of point 26: it pays 5 in pot 0 by day 20, gets 5 in pot 1 by the day told, both with word 7
def example(day):
    return view_of([(0, [pays(5, 7, 20)], {}), (0, [gets(5, 7, day)], {})])


class TestSharesAlone(unittest.TestCase):
    def test_no_pots(self):
        self.assertEqual(worth(view_of([])), 0)
        self.assertEqual(paper(view_of([])), (0, [], {}))

    def test_the_hand_s_side(self):
        self.assertEqual(worth(view_of([(0, [(0, (60, 40), ())], {})])), 60)
        self.assertEqual(worth(view_of([(1, [(0, (60, 40), ())], {})])), 40)

    def test_the_least_of_the_stands(self):
        stands = [(k, (share, 100 - share), ()) for k, share in enumerate((50, 30, 70))]
        self.assertEqual(worth(view_of([(0, stands, {})])), 30)
        self.assertEqual(worth(view_of([(1, stands, {})])), 30)
        self.assertEqual(paper(view_of([(0, stands, {})])), (30, [1], {}))
        self.assertEqual(paper(view_of([(1, stands, {})])), (30, [2], {}))

    def test_three_pots(self):
        pots = [(0, [(0, (5, 0), ()), (1, (4, 1), ())], {}), (1, [(0, (1, 9), ())], {}), (0, [(0, (7, 0), ())], {})]
        self.assertEqual(worth(view_of(pots)), 20)
        self.assertEqual(paper(view_of(pots)), (20, [1, 0, 0], {}))

    def test_ten_stands_in_each_of_three_pots(self):
        pots = [(0, [(k, (100 + (k * 7 + 3 * pot) % 10, 0), ()) for k in range(10)], {}) for pot in range(3)]
        self.assertEqual(worth(view_of(pots)), 300)
        self.assertEqual(paper(view_of(pots))[1], [0, 1, 2])

    def test_the_greatest_amounts(self):
        stand = (10 ** 6, (2 * 10 ** 12, 0), ((1, 10 ** 12, 59, 10 ** 6),))
        self.assertEqual(worth_of(stand, [59]), 3 * 10 ** 12)

    def test_by_names(self):
        view = View(every=3, look=10, words=[], pots=[(0, [(0, (60, 40), ())], {})])
        self.assertEqual(worth(view=view), 60)
        self.assertEqual(paper(view=view), (60, [0], {}))
        self.assertIs(stands_up(view=view, told=(60, [0], {})), True)


class TestTiesThatItPays(unittest.TestCase):
    def test_lost_where_it_was_shown_in_time(self):
        for side in (0, 1):
            self.assertEqual(worth_of(pays(5, 7, 20, side, 30), seen={7: 9}, side=side), 30)
            self.assertEqual(worth_of(pays(5, 7, 8, side, 30), seen={7: 7}, side=side), 30)

    def test_shown_on_that_very_day_is_too_late(self):
        for day_shown, told in ((7, 30), (8, 35), (9, 35)):
            self.assertEqual(worth_of(pays(5, 7, 8, 0, 30), seen={7: day_shown}), told)

    def test_back_from_that_day_on(self):
        for day in (0, 9, 10):
            self.assertEqual(worth_of(pays(5, 7, day, 0, 30)), 35)
        for day in (11, 12, 99):
            self.assertEqual(worth_of(pays(5, 7, day, 0, 30)), 30)

    def test_open_it_may_be_lost_whether_it_has_the_word_or_not(self):
        self.assertEqual(worth_of(pays(5, 7, 20, 0, 30), [7]), 30)
        self.assertEqual(worth_of(pays(5, 7, 20, 0, 30), []), 30)

    def test_seen_for_another_pot_is_nothing_for_this(self):
        pots = [(0, [pays(5, 7, 10, 0, 30)], {}), (0, [(0, (0, 0), ())], {7: 3})]
        self.assertEqual(worth(view_of(pots)), 35)

    def test_another_word_seen(self):
        self.assertEqual(worth_of(pays(5, 7, 10, 0, 30), seen={8: 3}), 35)


class TestTiesToIt(unittest.TestCase):
    def test_won_where_it_was_shown_in_time(self):
        for side in (0, 1):
            self.assertEqual(worth_of(gets(5, 7, 20, side, 30), seen={7: 9}, side=side), 35)
            self.assertEqual(worth_of(gets(5, 7, 8, side, 30), seen={7: 7}, side=side), 35)

    def test_shown_on_that_very_day_is_too_late(self):
        for day_shown, told in ((7, 35), (8, 30), (9, 30)):
            self.assertEqual(worth_of(gets(5, 7, 8, 0, 30), [7], {7: day_shown}), told)

    def test_gone_from_that_day_on(self):
        for day in (0, 9, 10):
            self.assertEqual(worth_of(gets(5, 7, day, 0, 30), [7], every=0), 30)
        self.assertEqual(worth_of(gets(5, 7, 11, 0, 30), [7], every=0), 35)

    def test_gone_comes_ahead_of_sure(self):
        # only an every below 0 could make both hold
        self.assertEqual(worth_of(gets(5, 7, 10, 0, 30), [7], every=-3), 30)
        self.assertEqual(worth_of(gets(5, 7, 11, 0, 30), [7], every=-3), 35)

    def test_sure_where_it_has_the_word_and_looks_again_in_time(self):
        for day in (14, 15, 99):
            self.assertEqual(worth_of(gets(5, 7, day, 0, 30), [7]), 35)
        for day in (11, 12, 13):
            self.assertEqual(worth_of(gets(5, 7, day, 0, 30), [7]), 30)

    def test_without_the_word_it_hangs(self):
        for words in ([], [8], [6, 8]):
            self.assertEqual(worth_of(gets(5, 7, 99, 0, 30), words), 30)

    def test_with_several_words(self):
        self.assertEqual(worth_of(gets(5, 7, 99, 0, 30), [3, 7, 3, 7]), 35)


class TestFates(unittest.TestCase):
    def test_the_example_both_ways(self):
        self.assertEqual(worth(example(23)), 5)
        self.assertEqual(worth(example(22)), 0)

    def test_the_example_s_border_by_every(self):
        for every, told in ((1, 5), (2, 5), (3, 0), (4, 0)):
            pots = [(0, [pays(5, 7, 20)], {}), (0, [gets(5, 7, 22)], {})]
            self.assertEqual(worth(view_of(pots, every=every)), told)

    def test_the_example_s_papers(self):
        self.assertEqual(paper(example(22)), (0, [0, 0], {7: 20}))
        for fate in (None, 20):
            self.assertIs(stands_up(example(23), (5, [0, 0], {7: fate})), True)
            self.assertIs(stands_up(example(22), (5 if fate is None else 0, [0, 0], {7: fate})), True)

    def test_a_hanging_tie_of_its_own_word_alone_does_not_come(self):
        pots = [(0, [pays(5, 7, 20)], {}), (0, [gets(50, 8, 99)], {})]
        self.assertEqual(worth(view_of(pots)), 0)

    def test_the_hand_s_sides_may_be_unlike(self):
        pots = [(1, [pays(5, 7, 20, 1)], {}), (0, [gets(5, 7, 23)], {})]
        self.assertEqual(worth(view_of(pots)), 5)

    def test_a_late_fate_loses_just_what_is_due_late(self):
        # the fate 20 loses both ties that it pays, the fate 30 just the one by day 30
        pots = [(0, [pays(5, 7, 20)], {}), (0, [pays(6, 7, 30)], {}), (0, [gets(20, 7, 25)], {})]
        told = paper(view_of(pots))
        self.assertEqual(told, (5, [0, 0, 0], {7: 30}))
        for fate, number in ((None, 11), (20, 20), (30, 5)):
            self.assertIs(stands_up(view_of(pots), (number, [0, 0, 0], {7: fate})), True)

    def test_all_from_that_day_on_is_lost(self):
        pots = [(0, [pays(5, 7, 20)], {}), (0, [pays(6, 7, 30)], {}), (0, [pays(7, 7, 20)], {})]
        self.assertEqual(worth(view_of(pots)), 0)
        for fate, number in ((None, 18), (20, 0), (30, 12)):
            self.assertIs(stands_up(view_of(pots), (number, [0, 0, 0], {7: fate})), True)

    def test_each_word_s_least_by_itself(self):
        stand_0 = (1, (0, 0), ((0, 5, 7, 20), (0, 5, 8, 20)))
        stand_1 = (1, (0, 0), ((1, 9, 7, 23), (1, 2, 8, 23)))
        pots = [(0, [stand_0], {}), (0, [stand_1], {})]
        self.assertEqual(paper(view_of(pots)), (7, [0, 0], {7: None, 8: 20}))

    def test_the_stands_are_chosen_with_the_fates(self):
        pots = [(0, [pays(5, 7, 20, 0, 10), (2, (11, 0), ())], {}), (0, [gets(5, 7, 23, 0, 1), (2, (3, 0), ())], {})]
        self.assertEqual(paper(view_of(pots)), (12, [1, 0], {7: None}))

    def test_a_tie_that_is_seen_shown_in_one_pot_is_open_in_the_other(self):
        pots = [(0, [pays(5, 7, 20)], {}), (0, [gets(5, 7, 20)], {7: 9})]
        self.assertEqual(paper(view_of(pots)), (5, [0, 0], {7: 20}))

    def test_a_sure_tie_does_not_hang_on_the_fate(self):
        pots = [(0, [pays(5, 7, 20)], {}), (0, [gets(5, 7, 14)], {})]
        self.assertEqual(worth(view_of(pots, [7])), 5)
        self.assertEqual(worth(view_of(pots, [])), 0)

    def test_against_all_ways(self):
        seen_lots = set()
        for parts in some_views(500, 3, 3, 5, 1):
            view = View(*parts)
            self.assertEqual(worth(view), min(total for chosen, fates, total in slow_ways(parts)))
            for side, stands, seen in parts[3]:
                seen_lots |= {slow_lot(parts, side, seen, tie) for stand in stands for tie in stand[2]}
        self.assertEqual(seen_lots, {"lost", "back", "open", "won", "gone", "sure", "hangs"})

    def test_against_all_ways_with_many_stands(self):
        for parts in some_views(25, 10, 2, 3, 2):
            self.assertEqual(worth(View(*parts)), min(total for chosen, fates, total in slow_ways(parts)))

    def test_against_all_ways_with_six_ties(self):
        for parts in some_views(40, 2, 6, 6, 3):
            self.assertEqual(worth(View(*parts)), min(total for chosen, fates, total in slow_ways(parts)))

    def test_the_greatest_views_are_told_too(self):
        ties = [tuple((k % 2, 1, (6 * pot + k) % 12, 20 + k) for k in range(6)) for pot in range(3)]
        pots = [(0, [(k, (100, 100), ties[pot]) for k in range(10)], {}) for pot in range(3)]
        told = paper(view_of(pots))
        self.assertIs(stands_up(view_of(pots), told), True)
        self.assertEqual(len(told[2]), 12)


class TestPaper(unittest.TestCase):
    def test_it_tells_the_worth_and_stands_up(self):
        for parts in some_views(300, 3, 3, 5, 4):
            view = View(*parts)
            told = paper(view)
            self.assertIs(type(told), tuple)
            self.assertEqual([type(part) for part in told], [int, list, dict])
            self.assertEqual(told[0], worth(view))
            self.assertIs(stands_up(view, told), True)
            ways = [way for way in slow_ways(parts) if way[0] == told[1] and way[1] == told[2]]
            self.assertEqual([way[2] for way in ways], [told[0]])

    def test_its_fates_are_of_all_words_of_the_chosen_stands(self):
        ties = ((0, 1, 0, 5), (0, 2, 1, 9), (0, 4, 2, 20), (1, 8, 3, 5), (1, 16, 4, 5), (1, 32, 5, 20))
        stands = [(1, (0, 0), ties), (2, (99, 0), ((0, 1, 40, 20),))]
        told = paper(view_of([(0, stands, {0: 2, 3: 2})], [5]))
        self.assertEqual(told, (42, [0], {0: None, 1: None, 2: 20, 3: None, 4: None, 5: None}))

    def test_it_is_the_asker_s_own(self):
        view = example(22)
        told = paper(view)
        told[1].append(4)
        told[2][9] = None
        self.assertEqual(paper(view), (0, [0, 0], {7: 20}))
        self.assertEqual(worth(view), 0)

    def test_asked_again_it_answers_the_same(self):
        for parts in some_views(50, 3, 3, 5, 5):
            self.assertEqual(paper(View(*parts)), paper(View(*parts)))


class TestStandsUp(unittest.TestCase):
    def check(self, view, told, answer):
        with self.subTest(told=told):
            self.assertIs(stands_up(view, told), answer)

    def test_all_ways_stand_and_no_other_number(self):
        for parts in some_views(60, 2, 3, 4, 6):
            view = View(*parts)
            for chosen, fates, total in slow_ways(parts):
                self.check(view, (total, chosen, fates), True)
                for wrong in (total - 1, total + 1, -total - 1, 10 ** 29):
                    self.check(view, (wrong, chosen, fates), False)

    def test_a_paper_that_stands_tells_no_less_than_the_worth(self):
        view = example(22)
        self.check(view, (5, [0, 0], {7: None}), True)
        self.check(view, (0, [0, 0], {7: 20}), True)
        self.check(view, (-1, [0, 0], {7: 20}), False)
        self.check(view, (0, [0, 0], {7: None}), False)

    def two_pots(self):
        stands_0 = [(1, (10, 0), ()), (2, (20, 0), ()), (3, (0, 0), ((0, 5, 7, 20),))]
        stands_1 = [(1, (0, 1), ()), (2, (0, 2), ((0, 3, 8, 30),))]
        return view_of([(0, stands_0, {}), (1, stands_1, {})])

    def test_places(self):
        view = self.two_pots()
        self.check(view, (11, [0, 0], {}), True)
        self.check(view, (21, [1, 0], {}), True)
        self.check(view, (11, [1, 0], {}), False)
        self.check(view, (21, [0, 0], {}), False)
        self.check(view, (12, [0, 1], {8: None}), True)
        self.check(view, (11, [0, 1], {8: None}), False)

    def test_places_that_there_are_not(self):
        view = self.two_pots()
        for chosen in ([3, 0], [0, 2], [-1, 0], [0, -1], [-2, 0], [0, -2], [-3, 0], [10 ** 29, 0], [0, -10 ** 29]):
            for total in (1, 2, 10, 11, 12, 21, 22):
                for fates in ({}, {7: None}, {8: None}, {7: 20}):
                    self.check(view, (total, chosen, fates), False)

    def test_places_too_many_or_too_few(self):
        view = self.two_pots()
        for total, chosen in ((11, [0, 0, 0]), (10, [0]), (0, []), (11, [0]), (11, [])):
            self.check(view, (total, chosen, {}), False)
        self.check(view_of([]), (0, [], {}), True)
        self.check(view_of([]), (0, [0], {}), False)
        self.check(view_of([]), (1, [], {}), False)

    def test_fates(self):
        view = self.two_pots()
        self.check(view, (6, [2, 0], {7: None}), True)
        self.check(view, (1, [2, 0], {7: 20}), True)
        for fate in (0, 1, 19, 21, 22, 30, -20, 10 ** 6, 10 ** 29):
            for total in (1, 6):
                self.check(view, (total, [2, 0], {7: fate}), False)

    def test_a_fate_that_is_no_day_of_an_open_tie(self):
        hanging = view_of([(0, [gets(5, 7, 20)], {})])
        self.check(hanging, (0, [0], {7: None}), True)
        self.check(hanging, (0, [0], {7: 20}), False)
        sure = view_of([(0, [gets(5, 7, 20)], {})], [7])
        self.check(sure, (5, [0], {7: None}), True)
        self.check(sure, (5, [0], {7: 20}), False)
        back = view_of([(0, [pays(5, 7, 10)], {})])
        self.check(back, (5, [0], {7: None}), True)
        self.check(back, (5, [0], {7: 10}), False)
        lost = view_of([(0, [pays(5, 7, 20)], {7: 3})])
        self.check(lost, (0, [0], {7: None}), True)
        self.check(lost, (0, [0], {7: 20}), False)

    def test_the_day_of_another_word_s_tie_or_of_a_stand_not_chosen(self):
        both = view_of([(0, [(1, (0, 0), ((0, 5, 7, 20), (0, 5, 8, 30)))], {})])
        self.check(both, (0, [0], {7: 20, 8: 30}), True)
        for fates in ({7: 30, 8: 30}, {7: 20, 8: 20}, {7: 30, 8: 20}):
            for total in (0, 5, 10):
                self.check(both, (total, [0], fates), False)
        apart = view_of([(0, [pays(5, 7, 20), pays(5, 7, 30)], {})])
        self.check(apart, (0, [0], {7: 20}), True)
        self.check(apart, (0, [1], {7: 30}), True)
        for total in (0, 5):
            self.check(apart, (total, [0], {7: 30}), False)
            self.check(apart, (total, [1], {7: 20}), False)

    def test_the_day_of_another_pot_s_tie_of_that_word(self):
        view = view_of([(0, [pays(5, 7, 20)], {}), (0, [pays(5, 7, 30), (2, (0, 0), ())], {})])
        self.check(view, (5, [0, 0], {7: 30}), True)
        self.check(view, (0, [0, 0], {7: 20}), True)
        self.check(view, (5, [0, 1], {7: 30}), False)

    def test_a_word_too_many_or_too_few(self):
        view = self.two_pots()
        for fates in ({}, {8: None}, {7: None, 8: None}, {7: None, 9: None}, {6: None}, {7: None, -1: None}):
            self.check(view, (6, [2, 0], fates), False)
        for fates in ({7: None}, {8: None}, {0: None}, {7: 20}):
            self.check(view, (11, [0, 0], fates), False)
        firm = view_of([(0, [pays(5, 7, 10), gets(5, 8, 10)], {})])
        self.check(firm, (5, [0], {}), False)
        self.check(firm, (0, [1], {}), False)

    def test_the_paper_stays_as_it_was(self):
        told = (6, [2, 0], {7: None})
        stands_up(self.two_pots(), told)
        self.assertEqual(told, (6, [2, 0], {7: None}))


class TestHandedIn(unittest.TestCase):
    def test_nothing_is_changed(self):
        words = [7, 3, 7]
        stands = [pays(5, 7, 20, 0, 30), gets(5, 3, 20, 0, 30)]
        seen = {9: 3, 1: 2}
        pots = [(0, stands, seen)]
        view = View(EVERY, LOOK, words, pots)
        worth(view)
        paper(view)
        stands_up(view, (30, [0], {7: 20}))
        self.assertEqual(words, [7, 3, 7])
        self.assertEqual(stands, [pays(5, 7, 20, 0, 30), gets(5, 3, 20, 0, 30)])
        self.assertEqual(list(seen.items()), [(9, 3), (1, 2)])
        self.assertEqual(len(pots), 1)
        self.assertIs(pots[0][1], stands)

    def test_what_is_done_behind_the_call_changes_nothing(self):
        words = []
        stands = [gets(5, 7, 20, 0, 30)]
        seen = {}
        pots = [(0, stands, seen)]
        view = View(EVERY, LOOK, words, pots)
        words.append(7)
        stands.append((2, (0, 0), ()))
        seen[7] = 3
        pots.append((0, [(0, (1000, 0), ())], {}))
        self.assertEqual(worth(view), 30)
        self.assertEqual(paper(view), (30, [0], {7: None}))
        self.assertIs(stands_up(view, (30, [0], {7: None})), True)
        self.assertIs(stands_up(view, (0, [1], {})), False)


if __name__ == "__main__":
    unittest.main()

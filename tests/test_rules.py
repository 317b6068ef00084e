"""Points 91, 93, 94 and 105, as far as they speak of rules: odds, the rule and its numbers."""

import random
import unittest
from fractions import Fraction
from math import lcm, prod

from copyrates.juries import Jury
from copyrates.rules import NaturalRule, Rule
from copyrates.sayrows import flow, says
from copyrates.wins import win_row
from copyrates.worlds import World
from tests.kit import NO_WHOLE, Checks, fractions, lots, pair, ring_takes, some_linked

NO_FRACTION = (True, None, "1", 1.5, (1,), (1, 0), (1, -1), (1, 2, 3), [1, True], (0.5, 1), {0: 1, 1: 1})
FAR = 10 ** 99


def trial_odds():
    draw = random.Random(91)
    found = [[1, (1, 2)], [1, 1], [(FAR, FAR - 1), (1, FAR), (FAR, 7)], [3] * 6, [(2, 4), [6, 3], (1, 10 ** 6), 5]]
    for size in (2, 3, 4, 5, 6):
        found.extend([[(draw.randrange(1, 20), draw.randrange(1, 20)) for _ in range(size)] for _ in range(3)])
    return found


def worths(odds):
    return [Fraction(*odd) if isinstance(odd, (tuple, list)) else Fraction(odd) for odd in odds]


def drawn(odds):
    """The chance of each lot, as Fractions."""
    weights = {lot: prod((odds[i] for i in lot), start=Fraction(1)) for lot in lots(len(odds))[1:]}
    total = sum(weights.values())
    return {lot: weight / total for lot, weight in weights.items()}


class Rules(Checks):
    def test_lots(self):
        for odds in trial_odds():
            rule, chances = Rule(odds), drawn(worths(odds))
            for lot in lots(len(odds)):
                missing = prod((1 / (1 + worths(odds)[i]) for i in lot), start=Fraction(1))
                none = prod((1 / (1 + odd) for odd in worths(odds)), start=Fraction(1))
                self.same(rule(list(lot)[::-1]), pair((1 - missing) / (1 - none)))
                self.same(rule(lot), pair(sum(c for own, c in chances.items() if set(own) & set(lot))))
                if lot:
                    self.same(rule.chance(lot), pair(chances[lot]))
                    self.same(rule.chance(list(lot)[::-1]), pair(chances[lot]))

    def test_sizes_and_shares(self):
        for odds in trial_odds():
            rule, chances, size = Rule(odds), drawn(worths(odds)), len(odds)
            for number in range(1, size + 1):
                self.same(rule.sized(number), pair(sum(c for lot, c in chances.items() if len(lot) == number)))
            self.same(rule.mean_jury(), pair(sum(c * len(lot) for lot, c in chances.items())))
            for place in range(size):
                self.same(rule.share(place), pair(sum(c / len(lot) for lot, c in chances.items() if place in lot)))

    def test_grades(self):
        draw = random.Random(5)
        for odds in trial_odds():
            rule, chances = Rule(odds), drawn(worths(odds))
            for top in (0, 2, 10 ** 12):
                grades = [draw.randrange(-top, top + 1) for _ in odds]
                sums = {grade: Fraction(0) for grade in grades}
                for lot, chance in chances.items():
                    sums[max(grades[i] for i in lot)] += chance
                wanted = tuple((grade, pair(sums[grade])) for grade in sorted(sums))
                self.same(self.told(rule.last_chances(grades)), wanted)
                self.same(rule.last_chances(tuple(grades)), wanted)
                self.same(rule.mean(grades), pair(sum(grade * chance for grade, chance in sums.items())))

    def test_attributes(self):
        rule = Rule([(2, 4), [6, 3], 7])
        self.same((rule.odds, rule.size), (((1, 2), (2, 1), (7, 1)), 3))
        self.same(Rule((1,) * 6).size, 6)

    def test_greater_odds(self):
        for odds in trial_odds():
            rule, row = Rule(odds), worths(odds)
            for i in range(len(odds)):
                for j in range(len(odds)):
                    if row[i] > row[j]:
                        wins = Fraction(*rule((i,))) / Fraction(*rule((j,)))
                        shares = Fraction(*rule.share(i)) / Fraction(*rule.share(j))
                        self.assertTrue(1 < wins < shares < row[i] / row[j])

    def test_equal(self):
        self.assertTrue(Rule([1, (1, 2)]) == Rule(((3, 3), [2, 4])))
        self.assertFalse(Rule([1, (1, 2)]) == Rule([(1, 2), 1]))
        self.assertFalse(Rule([1, 1]) == Rule([1, 1, 1]))
        natural = NaturalRule([(2, 3), (1, 3)], (3, 2))
        self.assertTrue(natural == Rule([1, (1, 2)]))
        self.assertTrue(Rule([1, (1, 2)]) == natural)
        self.assertTrue(natural == NaturalRule([[4, 6], (2, 6)], [6, 4]))
        self.assertFalse(natural == NaturalRule([(2, 3), (1, 3)], 1))
        for other in (None, 1, ((1, 1), (1, 2)), [1, (1, 2)], "1", World(ring_takes(3))):
            self.assertIs(Rule([1, (1, 2)]) == other, False)
            self.assertIs(Rule([1, (1, 2)]) != other, True)

    def test_never_changes(self):
        odds, lot, grades = [1, [1, 2]], [1, 0], [3, 1]
        rule = Rule(odds)
        first = (rule(lot), rule.chance(lot), rule.mean(grades), rule.last_chances(grades), rule.odds)
        odds[0] = 5
        odds[1][0] = 9
        self.assertEqual(first, (rule(lot), rule.chance(lot), rule.mean(grades), rule.last_chances(grades), rule.odds))
        self.assertEqual((lot, grades), ([1, 0], [3, 1]))


class NaturalRules(Checks):
    def natural(self, web, strength):
        """The web with the calls strength * flow, made whole."""
        exact = [[strength * entry for entry in fractions(row)] for row in flow(web)]
        bottom = lcm(*[entry.denominator for row in exact for entry in row])
        takes = [[take * bottom for take in row] for row in web.takes]
        return World(takes, calls=[[int(entry * bottom) for entry in row] for row in exact])

    def test_natural_worlds(self):
        for size in (2, 3, 4, 5):
            webs = some_linked(size, 14, 94 * size, zeros=size - 1, calls=False)[: 3 if size < 5 else 1]
            for web in webs:
                for strength in (Fraction(1), Fraction(5, 3)):
                    world, rule = self.natural(web, strength), NaturalRule(says(web), pair(strength))
                    jury = Jury(world)
                    self.same(tuple(rule(lot) for lot in lots(size)), win_row(world))
                    self.same(tuple(rule.chance(lot) for lot in lots(size)[1:]), jury.chances[1:])
                    self.same(rule.mean_jury(), jury.mean_size)
                    self.same([rule.share(i) for i in range(size)], [jury.share(i) for i in range(size)])
                    self.same([rule.sized(k + 1) for k in range(size)], [jury.sized(k + 1) for k in range(size)])
                    self.same(rule.last_chances([3, -1, 3, 0, 7][:size]), jury([3, -1, 3, 0, 7][:size]))

    def test_two_places(self):
        # Each world of two places with a calling tie is independent: the odds are told by both place gaps.
        for world in (World([[0, 1], [2, 0]], calls=[[0, 0], [1, 0]]), World([[0, 5], [3, 0]], calls=[[0, 2], [7, 0]])):
            chances = fractions(Jury(world).chances)
            rule = Rule([pair(chances[3] / chances[2]), pair(chances[3] / chances[1])])
            self.same(tuple(rule(lot) for lot in lots(2)), win_row(world))

    def test_numbers_of_places(self):
        for odds in trial_odds():
            parts = worths(odds)
            row, q = [part / sum(parts) for part in parts], Fraction(7, 4)
            rule = NaturalRule(list(map(pair, row)), pair(q))
            weights = {}
            for lot in lots(len(row))[1:]:
                weights[len(lot)] = weights.get(len(lot), 0) + q ** len(lot) * prod(row[i] for i in lot)
            for number, weight in weights.items():
                self.same(rule.sized(number), pair(weight / sum(weights.values())))

    def test_attributes(self):
        rule = NaturalRule([(4, 6), [1, 3]], (6, 4))
        self.assertIsInstance(rule, Rule)
        self.same((rule.says, rule.strength, rule.odds, rule.size), (((2, 3), (1, 3)), (3, 2), ((1, 1), (1, 2)), 2))
        self.same(NaturalRule([(1, 3)] * 3, 2).strength, (2, 1))

    def test_says_stay(self):
        row, strength = [[4, 6], [1, 3]], [6, 4]
        rule = NaturalRule(row, strength)
        self.assertEqual((row, strength), ([[4, 6], [1, 3]], [6, 4]))
        row[0][0] = 9
        self.same(rule.says, ((2, 3), (1, 3)))

    def test_refused(self):
        for row in (None, 3, "11", (), [1], [(1, 7)] * 7, {0: 1, 1: 1}):
            self.refused("BadOdds", -1, NaturalRule, row, None)
        for entry in NO_FRACTION + (0, -1, (0, 3), (-1, 2)):
            self.refused("BadOdds", 1, NaturalRule, [1, entry, entry], None)
        for row in ([1, 1], [(1, 2), (1, 3)], [(1, 2), (1, 2), (1, FAR)]):
            self.refused("BadOdds", -1, NaturalRule, row, None)
        for strength in NO_FRACTION + (0, -1, (0, 3), (-1, 2)):
            self.refused("BadFraction", "strength", NaturalRule, [(1, 2), (1, 2)], strength)


class Refused(Checks):
    def test_odds(self):
        for odds in (None, 3, "11", (), [1], (1,) * 7, {0: 1, 1: 1}, range(3)):
            self.refused("BadOdds", -1, Rule, odds)
        for entry in NO_FRACTION + (0, -1, (0, 3), (-1, 2)):
            self.refused("BadOdds", 1, Rule, [1, entry, entry])
            self.refused("BadOdds", 5, Rule, (1, 1, 1, 1, 1, entry))

    def test_lots(self):
        rule = Rule([1, 2, 3])
        for lot, place in ((None, None), (1, None), ((0, 3), 3), ([1, 1], 1), ((True,), True)):
            self.refused("BadLot", place, rule, lot)
            self.refused("BadLot", place, rule.chance, lot)
        self.refused("BadLot", None, rule.chance, ())
        self.same((rule(()), rule([2, 0, 1])), ((0, 1), (1, 1)))

    def test_numbers_places_grades(self):
        rule = Rule([1, 2, 3])
        for number in NO_WHOLE + (0, 4, -1):
            self.refused("BadNumber", "number", rule.sized, number)
        for place in (-1, 3, True, None, "0", (0,)):
            self.refused("BadPlace", place, rule.share, place)
        for call in (rule.mean, rule.last_chances):
            for grades in (None, 3, "abc", (), [1, 2], (1, 2, 3, 4)):
                self.refused("BadGrades", -1, call, grades)
            for entry in NO_WHOLE:
                self.refused("BadGrades", 1, call, (1, entry, entry))


if __name__ == "__main__":
    unittest.main()

import random
import unittest

from grounds import place_of, ring, rings_there_are
from refusals import refused
from rosenames.checker import holds
from rosenames.errors import NoPair, NoRoom
from rosenames.few import fewest
from rosenames.papers import paper_alike, paper_fewest, paper_home, paper_least
from rosenames.roses import Rose
from rosenames.spreads import Spread
from rosenames.turns import Turn
from rosenames.walks import Walk
from samples import GREAT, own_names
from test_few import drawn, made, made_otherwise
from test_walks import EVERY, FOUR, LETTERS, drawn_walks, walk_by


def primes_behind(many):
    """The first primes, one more than a multiple of MANY."""
    found, number = [], many + 1
    while len(found) < 4:
        if all(number % divisor for divisor in range(2, int(number ** 0.5) + 1)):
            found.append(number)
        number += many
    return found


class PaperTest(unittest.TestCase):
    def taken(self, told):
        """The claim of what is told, which the checker takes; all in tuples."""
        self.assertIs(type(told), tuple)
        claim, paper = told
        self.only_tuples(told)
        self.assertIs(holds(claim, paper), True)
        return claim

    def only_tuples(self, thing):
        self.assertIn(type(thing), (tuple, int, str))
        if isinstance(thing, tuple):
            for part in thing:
                self.only_tuples(part)


class HomeTest(PaperTest):
    def check(self, walk):
        word, lengths = self.taken(paper_home(walk))
        self.assertEqual(lengths, walk.totals())
        self.assertEqual(word, "away" if any(place_of(lengths)) else "home")
        self.assertEqual(word == "home", walk.home())
        return word

    def test_walks_drawn(self):
        chance = random.Random(1)
        for rose in EVERY:
            for walk in drawn_walks(rose, chance, (0, 1, 4, 30, 256)):
                self.check(walk)
                self.assertEqual(paper_home(walk=walk), paper_home(walk))

    def test_rings(self):
        chance = random.Random(2)
        for rose in EVERY:
            many = len(rose)
            lengths = [0] * many
            for first, size in rings_there_are(many):
                if size > 2 or many < 20:
                    self.assertEqual(self.check(walk_by(rose, ring(many, first, size))), "home")
                times = chance.choice((0, 1, 2, GREAT))
                lengths = [length + times * one for length, one in zip(lengths, ring(many, first, size))]
            self.assertEqual(self.check(walk_by(rose, lengths)), "home")
            lengths[chance.randrange(many)] += 1
            self.assertEqual(self.check(walk_by(rose, lengths)), "away")

    def test_no_steps(self):
        for rose in EVERY:
            self.assertEqual(paper_home(Walk(rose)), (("home", (0,) * len(rose)), ()))

    def test_away_by_multiples_of_primes(self):
        for rose in EVERY:
            many = len(rose)
            times = 1
            for prime in primes_behind(many):
                times *= prime
                for place in (0, 1, many - 1):
                    walk = walk_by(rose, [times if at == place else 0 for at in range(many)])
                    self.assertEqual(self.check(walk), "away")
                    modulus = paper_home(walk)[1][0]
                    self.assertNotEqual(modulus, prime)

    def test_away_by_what_comes_to_0_by_the_root_of_a_prime(self):
        # Lengths that come to 0 by a root, though none is a multiple of the prime.
        for rose in EVERY:
            many = len(rose)
            walk = Walk(rose, ((rose.words[1], 1),))
            for _ in range(3):
                modulus, root = paper_home(walk)[1]
                lengths = list(walk.totals())
                worth = sum(length * pow(root, place, modulus) for place, length in enumerate(lengths)) % modulus
                lengths[0] += modulus - worth
                walk = walk_by(rose, lengths)
                self.assertEqual(self.check(walk), "away")

    def test_lengths_of_thirty_figures(self):
        chance = random.Random(3)
        for rose in EVERY:
            walk = walk_by(rose, [chance.randrange(10 ** 29, 10 ** 30) for _ in range(len(rose))])
            self.assertEqual(self.check(walk), "away")


class AlikeTest(PaperTest):
    def check(self, one, other):
        word, lengths = self.taken(paper_alike(one, other))
        self.assertEqual(lengths, tuple(mine - theirs for mine, theirs in zip(one.totals(), other.totals())))
        self.assertEqual(word, "away" if any(place_of(lengths)) else "home")
        self.assertEqual(word == "home", one == other)
        return word

    def test_walks_drawn(self):
        chance = random.Random(4)
        for rose in EVERY:
            one, other, third = drawn_walks(rose, chance, (3, 40, 0))
            for mine in (one, other, third):
                self.assertEqual(self.check(mine, mine), "home")
                self.assertEqual(self.check(mine, mine.least()), "home")
                self.assertEqual(self.check(mine.least(), mine), "home")
                self.assertEqual(self.check(mine, mine.then(rose.words[1])), "away")
                self.assertEqual(self.check(mine.then(rose.words[-1], GREAT), mine), "away")
            self.check(one, other)
            self.check(other, third)
            self.assertEqual(paper_alike(other=one, one=other), paper_alike(other, one))

    def test_unlike_roses(self):
        one = Walk(Rose(FOUR), (("n", 1),))
        for rose in (Rose(FOUR, 1), Rose(FOUR, 2, Turn(1, 4)), Rose(("n", "e", "w", "s")), Rose(("n", "e", "s"))):
            for steps in ((), (("n", 1),)):
                refused(self, NoPair, lambda: paper_alike(one, Walk(rose, steps)))
                refused(self, NoPair, lambda: paper_alike(Walk(rose, steps), one))
        self.assertEqual(self.check(one, Walk(Rose(FOUR, 2, Turn(0)), (("n", 1),))), "home")


class LeastTest(PaperTest):
    def check(self, walk):
        word, lengths, least = self.taken(paper_least(walk))
        self.assertEqual(word, "least")
        self.assertEqual(lengths, walk.totals())
        self.assertEqual(least, walk.least().totals())

    def test_walks_drawn(self):
        chance = random.Random(5)
        for rose in EVERY:
            for walk in drawn_walks(rose, chance, (0, 1, 2, 9, 60, 256)):
                self.check(walk)
                self.check(walk.least())
            self.check(walk_by(rose, [1] * len(rose)))
            self.assertEqual(paper_least(walk=walk), paper_least(walk))

    def test_few_unlike_lengths(self):
        # Many differences are as large as the middle one then.
        chance = random.Random(6)
        for rose in EVERY:
            for share in (0.1, 0.3, 0.5, 0.9):
                for _ in range(4):
                    self.check(walk_by(rose, [int(chance.random() < share) for _ in range(len(rose))]))

    def test_rings(self):
        for rose in EVERY:
            for first, size in rings_there_are(len(rose))[::5]:
                self.check(walk_by(rose, ring(len(rose), first, size)))


class FewestTest(PaperTest):
    def check(self, must, bar):
        word, many, musts, bars, stretches = self.taken(paper_fewest(must, bar))
        rose = must.rose
        self.assertEqual((word, many), ("fewest", len(rose)))
        self.assertEqual(musts, tuple(wind.place() for wind in must.winds_in()))
        self.assertEqual(bars, tuple(wind.place() for wind in bar.winds_in()))
        own = own_names(rose)
        self.assertEqual(stretches, tuple((own.index(name), long) for name, long in fewest(must, bar)[0]))

    def test_spreads_drawn(self):
        chance = random.Random(7)
        for rose in EVERY:
            for must, bar in drawn(len(rose), chance)[::1 if len(rose) < 70 else 5]:
                self.check(made(rose, must), made(rose, bar))

    def test_by_whatever_names(self):
        chance = random.Random(8)
        for rose in EVERY[1::3]:
            for must, bar in drawn(len(rose), chance)[::3]:
                told = paper_fewest(made(rose, must), made(rose, bar))
                others = made_otherwise(rose, must, chance), made_otherwise(rose, bar, chance)
                self.assertEqual(paper_fewest(must=others[0], bar=others[1]), told)

    def test_refusals(self):
        rose = Rose(LETTERS, 2)
        spread = Spread(rose, ("a", "c>"))
        refused(self, NoRoom, lambda: paper_fewest(spread, spread))
        refused(self, NoRoom, lambda: paper_fewest(spread, Spread(rose, ("b", "d<"))))
        for other in (Rose(LETTERS, 1), Rose(LETTERS, 2, Turn(1, 8)), Rose(LETTERS[:7], 2)):
            refused(self, NoPair, lambda: paper_fewest(spread, Spread(other)))
            refused(self, NoPair, lambda: paper_fewest(Spread(other, ("a",)), spread))
        self.check(spread, Spread(rose, ("b",)))


if __name__ == "__main__":
    unittest.main()

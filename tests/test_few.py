import itertools
import random
import unittest

from refusals import refused
from rosenames.errors import NoPair, NoRoom
from rosenames.few import fewest
from rosenames.roses import Rose
from rosenames.spreads import Spread, gathered
from rosenames.turns import Turn
from samples import names_by_part, own_names, roses, wind_parts

FOUR = ("n", "e", "s", "w")
LETTERS = ("a", "b", "c", "d", "e", "f", "g", "h")


def made(rose, places):
    """The spread of these places, by own names."""
    own = own_names(rose)
    return Spread(rose, tuple(own[place] for place in sorted(places)))


def made_otherwise(rose, places, chance):
    """The spread of these places, by names drawn, in an order drawn, some more than once."""
    names, parts = names_by_part(rose), wind_parts(rose)
    given = [chance.choice(names[parts[place]]) for place in places]
    given += [chance.choice(names[parts[place]]) for place in places if chance.random() < 0.3]
    chance.shuffle(given)
    return Spread(rose, tuple(given))


def drawn(many, chance):
    """Pairs of sets of places that have none in both: few, many, none, all."""
    everything = set(range(many))
    pairs = [(set(), set()), (everything, set()), (set(), everything), (everything - {0}, {0}), ({0}, everything - {0}),
             ({many - 1, 0}, {1}), ({many - 1, 1}, {0}), ({0}, set()), ({many - 1}, set()), ({0, many - 1}, set())]
    for must_share, bar_share in ((0.1, 0.1), (0.5, 0.5), (0.9, 0.05), (0.05, 0.9), (0.3, 0), (0.7, 0), (0.4, 0.2)):
        for _ in range(3):
            must, bar = set(), set()
            for place in range(many):
                kind = chance.random()
                if kind < must_share:
                    must.add(place)
                elif kind < must_share + bar_share:
                    bar.add(place)
            pairs.append((must, bar))
    return pairs


def covered(rose, stretches):
    own = own_names(rose)
    return [(own.index(name) + more) % len(rose) for name, long in stretches for more in range(long)]


def ways_with_a_must(many, must, bar):
    """How many ways between a barred wind and the next one have a wind that must be there."""
    found = 0
    for barred in bar:
        place = (barred + 1) % many
        here = False
        while place not in bar:
            here = here or place in must
            place = (place + 1) % many
        found += here
    return found


def fewest_tried(many, must, bar):
    """How many stretches it takes, of all that there are, tried one by one."""
    all_of_them = []
    for first, long in itertools.product(range(many), range(1, many + 1)):
        places = {(first + more) % many for more in range(long)}
        if not places & bar:
            all_of_them.append(places & must)
    for size in range(many + 1):
        for some in itertools.combinations(all_of_them, size):
            if set().union(*some) == must:
                return size
    raise AssertionError("none at all")


class FewestTest(unittest.TestCase):
    def check(self, rose, must, bar, told):
        """What holds of every answer."""
        own = own_names(rose)
        many = len(rose)
        self.assertIs(type(told), tuple)
        stretches, bars = told
        for row in (stretches, bars, *stretches):
            self.assertIs(type(row), tuple)
        for name, long in stretches:
            self.assertIn(name, own)
            self.assertIs(type(long), int)
        have = covered(rose, stretches)
        self.assertEqual(len(have), len(set(have)))
        self.assertLessEqual(must, set(have))
        self.assertEqual(set(have) & bar, set())
        firsts = [own.index(name) for name, long in stretches]
        self.assertEqual(firsts, sorted(firsts))
        lasts = [(own.index(name) + long - 1) % many for name, long in stretches]
        self.assertLessEqual(set(firsts + lasts), must)
        if not must:
            self.assertEqual(told, ((), ()))
        elif not bar:
            self.assertEqual(len(stretches), 1)
        else:
            self.assertEqual(len(stretches), ways_with_a_must(many, must, bar))
        if len(stretches) < 2:
            self.assertEqual(bars, ())
        else:
            self.assertEqual(bars, tuple(own[self.next_barred(last, many, bar)] for last in lasts))

    def next_barred(self, place, many, bar):
        while place not in bar:
            place = (place + 1) % many
        return place

    def test_drawn(self):
        chance = random.Random(17)
        several = over = 0
        for rose in roses(halvings=range(6)):
            if len(rose) > 64:
                continue
            for must, bar in drawn(len(rose), chance):
                told = fewest(made(rose, must), made(rose, bar))
                self.check(rose, must, bar, told)
                several += len(told[0]) > 1
                own = own_names(rose)
                over += any(own.index(name) + long > len(rose) for name, long in told[0])
        self.assertGreater(several, 100)
        self.assertGreater(over, 50)

    def test_the_largest_rose(self):
        chance = random.Random(18)
        rose = Rose(LETTERS, 5)
        for must, bar in drawn(256, chance):
            self.check(rose, must, bar, fewest(made(rose, must), made(rose, bar)))

    def test_all_there_are_on_small_roses(self):
        for many in (3, 4, 5):
            rose = Rose(LETTERS[:many], 0, Turn(2, 7))
            for kinds in itertools.product(range(3), repeat=many):
                must = {place for place in range(many) if kinds[place] == 1}
                bar = {place for place in range(many) if kinds[place] == 2}
                told = fewest(must=made(rose, must), bar=made(rose, bar))
                self.check(rose, must, bar, told)
                self.assertEqual(len(told[0]), fewest_tried(many, must, bar))

    def test_by_whatever_names(self):
        chance = random.Random(19)
        for rose in roses(halvings=(1, 2, 3)):
            for must, bar in drawn(len(rose), chance):
                wanted = fewest(made(rose, must), made(rose, bar))
                again = Rose(rose.words, rose.halvings, rose.begin)
                self.assertEqual(fewest(made_otherwise(rose, must, chance), made_otherwise(again, bar, chance)), wanted)

    def test_without_bar_the_shortest_one(self):
        chance = random.Random(20)
        ties = 0
        for rose in roses(halvings=range(4)):
            many = len(rose)
            own = own_names(rose)
            sets = [must for must, bar in drawn(many, chance) if must]
            sets += [set(range(0, many, step)) for step in range(1, many) if many % step == 0]
            for must in sets:
                lengths = {}
                for first in range(many):
                    long = max((place - first) % many for place in must) + 1
                    lengths[first] = long
                least = min(lengths.values())
                first = min(place for place in lengths if lengths[place] == least)
                ties += list(lengths.values()).count(least) > 1
                self.assertEqual(fewest(made(rose, must), Spread(rose)), (((own[first], least),), ()))
        self.assertGreater(ties, 20)

    def test_examples(self):
        rose = Rose(FOUR, 2)

        def told(must, bar):
            return fewest(Spread(rose, must), Spread(rose, bar))

        self.assertEqual(told((), ()), ((), ()))
        self.assertEqual(told((), ("n", "e")), ((), ()))
        self.assertEqual(told(("e",), ()), ((("e", 1),), ()))
        self.assertEqual(told(("n", "s"), ()), ((("n", 9),), ()))
        self.assertEqual(told(("n", "w"), ()), ((("w", 5),), ()))
        self.assertEqual(told(("n", "e", "s", "w"), ()), ((("n", 13),), ()))
        self.assertEqual(told(("n", "e"), ("n>",)), ((("e", 13),), ()))
        self.assertEqual(told(("n", "e"), ("n>", "s")), ((("n", 1), ("e", 1)), ("n>", "s")))
        self.assertEqual(told(("n<>", "n><", "e"), ("n>", "s")), ((("e", 1), ("n<>", 3)), ("s", "n>")))
        self.assertEqual(told(("n", "e"), ("s", "w")), ((("n", 5),), ()))
        self.assertEqual(told(("n", "s"), ("e", "w", "w>")), ((("n", 1), ("s", 1)), ("e", "w")))
        everything = Spread(rose).rest()
        self.assertEqual(fewest(everything, Spread(rose)), ((("n", 16),), ()))
        self.assertEqual(fewest(Spread(rose, ("e",)).rest(), Spread(rose, ("e",))), ((("e><", 15),), ()))

    def test_what_was_handed_in_stays(self):
        rose = Rose(FOUR, 2)
        must, bar = Spread(rose, ("n", "e")), Spread(rose, ("n>", "s"))
        self.assertEqual(fewest(must, bar), fewest(must, bar))
        self.assertEqual((str(must), str(bar)), ("n, e", "n>, s"))


class RefusedTest(unittest.TestCase):
    def test_roses_that_are_not_alike(self):
        rose = Rose(FOUR, 1)
        for other in (Rose(FOUR, 1, Turn(1, 4)), Rose(FOUR, 1, Turn(1, 10 ** 50)), Rose(FOUR, 2),
                      Rose(("n", "e", "w", "s"), 1), Rose(("n", "e", "s"), 1)):
            for must, bar in itertools.product(((), ("n",), ("n", "e")), ((), ("s",), ("n",), ("e", "s", "n"))):
                refused(self, NoPair, lambda: fewest(Spread(rose, must), Spread(other, bar)))
                refused(self, NoPair, lambda: fewest(Spread(other, must), bar=Spread(rose, bar)))

    def test_a_wind_in_both(self):
        chance = random.Random(21)
        for rose in roses(halvings=(0, 2)):
            for must, bar in drawn(len(rose), chance):
                for place in sorted(must)[:2] + sorted(must)[-1:]:
                    refused(self, NoRoom, lambda: fewest(made(rose, must), made(rose, bar | {place})))
        rose = Rose(FOUR, 2)
        refused(self, NoRoom, lambda: fewest(Spread(rose, ("n>",)), Spread(rose, ("e<",))))
        everything = gathered(rose, lambda wind: True)
        refused(self, NoRoom, lambda: fewest(everything, everything))

    def test_behind_a_refusal_all_is_told_as_ahead(self):
        rose = Rose(FOUR, 2)
        must, bar = Spread(rose, ("n", "e")), Spread(rose, ("n>", "s"))
        ahead = fewest(must, bar)
        refused(self, NoRoom, lambda: fewest(must, must))
        refused(self, NoPair, lambda: fewest(must, Spread(Rose(FOUR, 1))))
        self.assertEqual(fewest(must, bar), ahead)


if __name__ == "__main__":
    unittest.main()

import itertools
import random
import unittest

from grounds import place_of, ring, rings_there_are
from refusals import alike, never_alike, refused
from rosenames.errors import NoPair, NoWalk
from rosenames.roses import Rose
from rosenames.spreads import Spread
from rosenames.turns import Turn
from rosenames.walks import Walk
from rosenames.winds import Wind, wind_of
from samples import GREAT, all_names, names_by_part, own_names, part_told, roses, wind_parts
from things import NUMBERS, TEXTS, THINGS, Alike, deep

FOUR = ("n", "e", "s", "w")
LETTERS = ("a", "b", "c", "d", "e", "f", "g", "h")
EVERY = [Rose(LETTERS[:corners], halvings) for corners in range(3, 9) for halvings in range(6)]
BAD_STEPS = (
    ["n", 1],
    ("n",),
    ("n", 1, 1),
    (),
    (1, "n"),
    ("", 1),
    (">", 1),
    ("N", 1),
    ("n ", 1),
    ("x", 1),
    ("foehn>", 1),
    ("n>>>", 1),
    ("n>e", 1),
    ("n..e", 1),
    ("-", 0),
    (None, 1),
    (b"n", 1),
    (0, 1),
    (("n",), 1),
    (["n"], 1),
    (Alike(), 1),
    (Wind(Rose(FOUR), Turn(0)), 1),
    ("n", -1),
    ("n", -GREAT),
    ("n", True),
    ("n", False),
    ("n", None),
    ("n", "1"),
    ("n", ""),
    ("n", (1,)),
    ("n", [1]),
    ("n", Turn(0)),
    ("n", Alike()),
    ("n", deep(8)),
    "n1",
    "n 1",
    {"n": 1, "e": 2},
    {"n", "e"},
    range(2),
)


def walk_by(rose, lengths):
    """A walk whose totals these are, none below 0, by own names."""
    own = own_names(rose)
    return Walk(rose, tuple((own[place], many) for place, many in enumerate(lengths) if many))


def drawn_steps(rose, many, most, chance):
    names = all_names(rose)
    return tuple((chance.choice(names), chance.randint(0, most)) for _ in range(many))


def drawn_walks(rose, chance, sizes=(0, 1, 2, 5, 20, 256)):
    return [Walk(rose, drawn_steps(rose, many, chance.choice((1, 3, 10, GREAT)), chance)) for many in sizes]


class MakingTest(unittest.TestCase):
    def check(self, walk, rose, steps):
        self.assertIsInstance(walk, Walk)
        self.assertEqual(walk.rose, rose)
        self.assertIs(type(walk.steps), tuple)
        self.assertEqual(walk.steps, steps)
        self.assertEqual(len(walk), len(steps))
        self.assertIs(bool(walk), len(steps) > 0)
        self.assertEqual(walk.length(), sum(many for name, many in steps))
        text = ", ".join(f"{name} {many}" for name, many in steps) or "-"
        self.assertEqual(str(walk), text)
        self.assertEqual(repr(walk), f"Walk({text})")
        parts = wind_parts(rose)
        totals = [0] * len(rose)
        for name, many in steps:
            totals[parts.index(part_told(rose, name))] += many
        self.assertIs(type(walk.totals()), tuple)
        self.assertEqual(walk.totals(), tuple(totals))

    def test_no_steps(self):
        for rose in roses(halvings=(0, 2, 5)):
            for walk in (Walk(rose), Walk(rose, None), Walk(rose, ()), Walk(rose, steps=None), Walk(steps=(), rose=rose)):
                self.check(walk, rose, ())

    def test_steps_drawn(self):
        chance = random.Random(18)
        for rose in roses(halvings=(0, 1, 3, 5)):
            for many in (1, 2, 7):
                steps = drawn_steps(rose, many, chance.choice((0, 2, GREAT)), chance)
                self.check(Walk(rose, steps), rose, steps)
                self.check(Walk(rose, steps=steps), rose, steps)

    def test_most_steps(self):
        chance = random.Random(19)
        for rose in (Rose(FOUR), Rose(LETTERS, 5), Rose(LETTERS[:3], 0)):
            steps = drawn_steps(rose, 256, 9, chance)
            self.check(Walk(rose, steps), rose, steps)

    def test_own_names_and_other_ones(self):
        for rose in roses(halvings=(1, 2)):
            for names in names_by_part(rose).values():
                for many in (0, 1, GREAT, 10 ** 99):
                    steps = tuple((name, many) for name in names)
                    self.check(Walk(rose, steps), rose, steps)

    def test_examples(self):
        walk = Walk(Rose(FOUR, 1), (("n", 3), ("e<", 0), ("n>", 2), ("n", GREAT)))
        self.assertEqual(str(walk), f"n 3, e< 0, n> 2, n {GREAT}")
        self.assertEqual(repr(Walk(Rose(FOUR))), "Walk(-)")
        self.assertEqual(walk.totals(), (GREAT + 3, 2, 0, 0, 0, 0, 0, 0))
        self.assertEqual(walk.length(), GREAT + 5)

    def test_numbers_of_very_many_figures(self):
        walk = Walk(Rose(FOUR, 0), (("n", 10 ** 99),) * 256)
        for _ in range(40):
            walk = Walk(walk.rose, walk.least().steps * 256)
        figures = len(str(walk).split(", ")[0]) - len("n ")
        self.assertEqual(figures, len(str(256 ** 40)) + 99)
        told = Walk(walk.rose, (("n", 10 ** 5000),))
        self.assertEqual(str(told), "n 1" + "0" * 5000)

    def test_then(self):
        rose = Rose(FOUR, 2)
        walk = Walk(rose)
        self.check(walk.then("n"), rose, (("n", 1),))
        self.check(walk.then("e<<", 7), rose, (("e<<", 7),))
        self.check(walk.then("e<<", many=GREAT).then(many=0, name="s").then("n"), rose,
                   (("e<<", GREAT), ("s", 0), ("n", 1)))
        self.check(walk, rose, ())
        longest = Walk(rose, (("n", 1),) * 255).then("w", 2)
        self.check(longest, rose, (("n", 1),) * 255 + (("w", 2),))

    def test_joined(self):
        chance = random.Random(20)
        for rose in roses(halvings=(0, 2)):
            one, other = (Walk(rose, drawn_steps(rose, many, 5, chance)) for many in (3, 4))
            again = Walk(Rose(rose.words, rose.halvings, rose.begin), other.steps)
            held = one.steps, other.steps
            self.check(one.joined(other), rose, one.steps + other.steps)
            self.check(one.joined(other=again), rose, one.steps + other.steps)
            self.check(other.joined(one), rose, other.steps + one.steps)
            self.check(one.joined(Walk(rose)), rose, one.steps)
            self.check(Walk(rose).joined(one), rose, one.steps)
            self.check(one.joined(one), rose, one.steps * 2)
            self.assertEqual((one.steps, other.steps), held)
        rose = Rose(FOUR)
        whole = Walk(rose, (("n", 1),) * 200).joined(Walk(rose, (("e", 2),) * 56))
        self.check(whole, rose, (("n", 1),) * 200 + (("e", 2),) * 56)

    def test_nothing_asked_changes_a_walk(self):
        rose = Rose(FOUR, 1)
        walk = Walk(rose, (("n", 3), ("s", 1), ("e<", 2)))
        held = dict(vars(walk))
        for _ in range(2):
            walk.then("n")
            walk.joined(walk)
            walk.totals()
            walk.length()
            walk.home()
            walk.least()
            str(walk)
            repr(walk)
        self.assertEqual(vars(walk), held)


class RefusedTest(unittest.TestCase):
    def refused(self, number, rose, steps):
        for deed in (lambda: Walk(rose, steps), lambda: Walk(rose, steps=steps)):
            self.assertEqual(refused(self, NoWalk, deed).number, number)
        got = refused(self, NoWalk, lambda: Walk(rose, steps)).number
        self.assertIs(type(got), type(number))

    def test_no_tuple(self):
        rose = Rose(FOUR)
        for thing in THINGS + TEXTS + NUMBERS + ([("n", 1)], {("n", 1): 1}, Walk(rose), rose, Turn(0), deep(10)):
            if thing is None or isinstance(thing, tuple):
                continue
            self.refused(None, rose, thing)

    def test_steps_that_are_none(self):
        rose = Rose(FOUR, 2)
        for step in BAD_STEPS + tuple(thing for thing in THINGS + TEXTS + NUMBERS):
            self.refused(0, rose, (step,))
            self.refused(0, rose, (step, ("n", 1)))
            self.refused(2, rose, (("n", 1), ("e<", 0), step))
            self.refused(1, rose, (("n", 1), step, ("x", 1), step))
            self.refused(255, rose, (("n", 1),) * 255 + (step,))
        self.refused(1, Rose(FOUR, 0), (("n", 1), ("n>", 1)))
        self.refused(0, Rose(LETTERS), (("n", 1),))

    def test_too_many(self):
        rose = Rose(FOUR)
        for step in (("n", 1), ("n", 0), ("n", -1), None):
            self.refused(None, rose, (step,) * 257)
            self.refused(None, rose, (step,) * 1000)

    def test_then(self):
        rose = Rose(FOUR, 2)
        for many in (0, 1, 5, 255):
            walk = Walk(rose, (("n", 1),) * many)
            for step in BAD_STEPS:
                if isinstance(step, tuple) and len(step) == 2:
                    self.assertEqual(refused(self, NoWalk, lambda: walk.then(*step)).number, many)
                    self.assertEqual(refused(self, NoWalk, lambda: walk.then(step[0], many=step[1])).number, many)
            self.assertEqual(refused(self, NoWalk, lambda: walk.then("x")).number, many)
            self.assertEqual(len(walk), many)

    def test_then_beyond_the_most(self):
        walk = Walk(Rose(FOUR), (("n", 1),) * 256)
        for name, many in (("n", 1), ("n", 0), ("x", 1), ("n", -1), (None, None)):
            self.assertIsNone(refused(self, NoWalk, lambda: walk.then(name, many)).number)
        self.assertIsNone(refused(self, NoWalk, lambda: walk.then("e")).number)
        self.assertEqual(walk.totals(), (256,) + (0,) * 15)

    def test_joined(self):
        one = Walk(Rose(FOUR), (("n", 1),) * 200)
        self.assertIsNone(refused(self, NoWalk, lambda: one.joined(one)).number)
        other = Walk(Rose(FOUR), (("e", 1),) * 57)
        self.assertIsNone(refused(self, NoWalk, lambda: one.joined(other)).number)
        self.assertIsNone(refused(self, NoWalk, lambda: other.joined(one)).number)
        for rose in (Rose(FOUR, 1), Rose(FOUR, 2, Turn(1, 4)), Rose(("n", "e", "w", "s")), Rose(("n", "e", "s"))):
            for steps in ((), (("n", 1),), (("n", 1),) * 256):
                unlike = Walk(rose, steps)
                refused(self, NoPair, lambda: one.joined(unlike))
                refused(self, NoPair, lambda: unlike.joined(one))
        self.assertEqual((len(one), len(other)), (200, 57))

    def test_behind_a_refusal_all_is_told_as_ahead(self):
        rose = Rose(FOUR)
        self.refused(1, rose, (("n", 1), ("x", 2)))
        self.assertEqual(str(Walk(rose)), "-")
        self.assertEqual(rose, Rose(FOUR))


class AlikeTest(unittest.TestCase):
    def test_rings_put_in(self):
        chance = random.Random(21)
        for rose in EVERY:
            many = len(rose)
            lengths = [chance.choice((0, 0, 1, 4, GREAT)) for _ in range(many)]
            walk = walk_by(rose, lengths)
            there = rings_there_are(many)
            for first, size in there[:2] + chance.sample(there, min(5, len(there))) + there[-2:]:
                times = chance.choice((1, 2, 10 ** 30))
                more = [length + times * one for length, one in zip(lengths, ring(many, first, size))]
                alike(self, walk, walk_by(rose, more), True)
                for place in range(many):
                    if place % (many // size) == first:
                        more[place] += 1
                        break
                alike(self, walk, walk_by(rose, more), False)
            for first, size in there:
                self.assertIs(walk_by(rose, ring(many, first, size)).home(), True)

    def test_many_rings_at_once(self):
        chance = random.Random(22)
        for rose in EVERY:
            many = len(rose)
            lengths = [0] * many
            for first, size in rings_there_are(many):
                times = chance.choice((0, 0, 1, 3, GREAT))
                lengths = [length + times * one for length, one in zip(lengths, ring(many, first, size))]
            walk = walk_by(rose, lengths)
            self.assertIs(walk.home(), True)
            alike(self, walk, Walk(rose), True)
            place = chance.randrange(many)
            lengths[place] += 1
            self.assertIs(walk_by(rose, lengths).home(), False)
            alike(self, walk_by(rose, lengths), walk, False)

    def test_against_the_places_they_come_to(self):
        chance = random.Random(23)
        homes = 0
        for rose in EVERY:
            if len(rose) > 64:
                continue
            walks = [walk_by(rose, [chance.randint(0, 1) for _ in range(len(rose))]) for _ in range(6)]
            walks += [Walk(rose), Walk(rose, ((rose.words[0], 1),)), walk_by(rose, [1] * len(rose))]
            walks += [walk.least() for walk in walks]
            for one in walks:
                here = place_of(one.totals())
                self.assertIs(one.home(), not any(here))
                homes += one.home()
                for other in walks:
                    self.assertIs(one == other, here == place_of(other.totals()))
                    self.assertIs(one != other, here != place_of(other.totals()))
        self.assertGreater(homes, 50)

    def test_all_small_walks(self):
        for corners, halvings in ((3, 0), (4, 0), (5, 0), (3, 1), (6, 0), (7, 0), (8, 0)):
            rose = Rose(LETTERS[:corners], halvings)
            many = len(rose)
            for lengths in itertools.product(range(3 if many < 6 else 2), repeat=many):
                self.assertIs(walk_by(rose, lengths).home(), not any(place_of(lengths)))

    def test_other_order_and_other_names(self):
        chance = random.Random(24)
        for rose in EVERY:
            names, parts = names_by_part(rose), wind_parts(rose)
            steps = [(chance.randrange(len(rose)), chance.randint(0, 9)) for _ in range(12)]
            walk = Walk(rose, tuple((names[parts[place]][0], many) for place, many in steps))
            chance.shuffle(steps)
            other = Walk(rose, tuple((names[parts[place]][-1], many) for place, many in steps))
            alike(self, walk, other, True)
            alike(self, walk, other.then(rose.words[1], 0), True)
            alike(self, walk, other.then(rose.words[1]), False)

    def test_out_and_back(self):
        for rose in EVERY:
            many, own = len(rose), own_names(rose)
            for place in (0, 1, many // 2, many - 1):
                out = Walk(rose, ((own[place], 5),))
                self.assertIs(out.home(), False)
                if many % 2 == 0:
                    back = (own[(place + many // 2) % many], 5)
                    self.assertIs(out.then(*back).home(), True)
                    self.assertIs(out.then(back[0], 4).home(), False)
                    alike(self, out.then(*back), Walk(rose), True)
                else:
                    others = tuple((own[other], 5) for other in range(many) if other != place)
                    self.assertIs(out.joined(Walk(rose, others)).home(), True)
                    self.assertIs(out.joined(Walk(rose, others[1:])).home(), False)

    def test_rings_of_other_numbers_are_made_of_these(self):
        rose = Rose(LETTERS[:3], 2)
        for size in (2, 3, 4, 6, 12):
            for first in range(12 // size):
                self.assertIs(walk_by(rose, ring(12, first, size)).home(), True)

    def test_examples(self):
        rose = Rose(FOUR, 1)
        alike(self, Walk(rose, (("n", 2), ("s", 1))), Walk(rose, (("n", 1),)), True)
        alike(self, Walk(rose, (("n", 2), ("e", 1))), Walk(rose, (("e", 1), ("n", 2))), True)
        alike(self, Walk(rose, (("n", 1), ("e", 1))), Walk(rose, (("n>", 1),)), False)
        six = Rose(LETTERS[:6], 0)
        alike(self, Walk(six, (("a", 1), ("c", 1))), Walk(six, (("b", 1),)), True)
        alike(self, Walk(six, (("a", 1), ("c", 2))), Walk(six, (("b", 1),)), False)
        three = Rose(LETTERS[:3], 0)
        alike(self, Walk(three, (("a", 1), ("b", 1), ("c", 1))), Walk(three), True)
        alike(self, Walk(three, (("a", 1), ("b", 1), ("c", 2))), Walk(three), False)

    def test_unlike_roses(self):
        rose = Rose(FOUR, 2)
        for other in (Rose(FOUR, 1), Rose(FOUR, 3), Rose(FOUR, 2, Turn(1, 4)), Rose(("n", "e", "s", "x"), 2)):
            for steps in ((), (("n", 1),), (("n", 1), ("e", 2))):
                alike(self, Walk(rose, steps), Walk(other, steps), False)
        alike(self, Walk(rose), Walk(Rose(FOUR, 2, Turn(0))), True)

    def test_a_walk_and_another_thing(self):
        rose = Rose(FOUR)
        for walk in (Walk(rose), Walk(rose, (("n", 1),)), Walk(rose, (("n", 1), ("s", 1)))):
            own = (rose, str(walk), repr(walk), walk.steps, list(walk.steps), walk.totals(), walk.length(), len(walk),
                   (rose, walk.steps), [walk], Walk, Spread(rose, ("n",)), Spread(rose), wind_of(rose, "n"), Turn(0))
            never_alike(self, walk, THINGS + TEXTS + NUMBERS + own)


class LeastTest(unittest.TestCase):
    def check(self, walk):
        """What holds of the least walk that a walk tells; it is told."""
        rose = walk.rose
        least = walk.least()
        self.assertIsInstance(least, Walk)
        self.assertEqual(least.rose, rose)
        own = own_names(rose)
        places = [own.index(name) for name, many in least.steps]
        self.assertEqual(places, sorted(set(places)))
        self.assertTrue(all(type(many) is int and many >= 1 for name, many in least.steps))
        alike(self, least, walk, True)
        self.assertEqual(place_of(least.totals()), place_of(walk.totals()))
        self.assertLessEqual(least.length(), walk.length())
        self.assertEqual(least.least().steps, least.steps)
        self.assertEqual(len(least) == 0, walk.home())
        return least

    def wanted(self, totals):
        """The least lengths by the middle or the least difference, place by place."""
        many = len(totals)
        odd = [size for size in (3, 5, 7) if many % size == 0]
        if many % 2 == 1:
            return [length - min(totals) for length in totals]
        more = [totals[place] - totals[(place + many // 2) % many] for place in range(many)]
        found = []
        for place in range(many):
            middle = 0
            if odd:
                along = [more[(place + at * many // odd[0]) % many] for at in range(odd[0])]
                middle = sorted(along)[odd[0] // 2]
            found.append(max(0, more[place] - middle))
        return found

    def test_by_the_middle_or_the_least_difference(self):
        chance = random.Random(25)
        for rose in EVERY:
            for walk in drawn_walks(rose, chance, (0, 1, 3, 12, 60, 256) if len(rose) < 100 else (2, 256)):
                self.assertEqual(list(self.check(walk).totals()), self.wanted(walk.totals()))

    def test_no_longer_than_with_rings_put_in_or_taken_off(self):
        chance = random.Random(26)
        for rose in EVERY:
            many = len(rose)
            there = rings_there_are(many)
            for walk in drawn_walks(rose, chance, (4, 40)):
                least = walk.least()
                lengths = list(least.totals())
                for _ in range(30):
                    others = list(lengths)
                    for first, size in chance.choices(there, k=chance.randint(1, 4)):
                        times = chance.choice((-2, -1, 1, 2))
                        others = [other + times * one for other, one in zip(others, ring(many, first, size))]
                    if min(others) >= 0:
                        self.assertGreaterEqual(sum(others), least.length())
                        self.assertEqual(walk_by(rose, others).least().steps, least.steps)

    def test_against_small_walks_tried_one_by_one(self):
        for corners, halvings, most in ((3, 0, 5), (4, 0, 5), (5, 0, 5), (6, 0, 4), (3, 1, 4), (7, 0, 4), (4, 1, 4),
                                        (8, 0, 4), (5, 1, 3), (3, 2, 3), (7, 1, 3)):
            rose = Rose(LETTERS[:corners], halvings)
            many = len(rose)
            found = {}
            for length in range(most + 1):
                for row in itertools.combinations_with_replacement(range(many), length):
                    totals = [row.count(place) for place in range(many)]
                    found.setdefault(place_of(totals), []).append((length, tuple(totals)))
            for rows in found.values():
                shortest = [totals for length, totals in rows if length == rows[0][0]]
                self.assertEqual(len(shortest), 1)
                for length, totals in rows[:1] + rows[-1:]:
                    self.assertEqual(walk_by(rose, totals).least().totals(), shortest[0])

    def test_of_what_is_home(self):
        for rose in EVERY:
            self.assertEqual(self.check(Walk(rose)).steps, ())
            self.assertEqual(self.check(walk_by(rose, [3] * len(rose))).steps, ())
            for first, size in rings_there_are(len(rose))[::7]:
                self.assertEqual(self.check(walk_by(rose, ring(len(rose), first, size))).steps, ())
            self.assertEqual(self.check(Walk(rose, ((rose.words[0], 0),))).steps, ())

    def test_examples(self):
        six = Rose(LETTERS[:6], 0)
        self.assertEqual(str(Walk(six, (("a", 1), ("c", 1))).least()), "b 1")
        self.assertEqual(str(Walk(six, (("a", 5), ("c", 2))).least()), "a 3, b 2")
        self.assertEqual(str(Walk(Rose(FOUR, 1), (("s<", 2), ("n", 3), ("s", 5))).least()), "e> 2, s 2")
        self.assertEqual(str(Walk(Rose(LETTERS[:3], 0), (("b", 4), ("a", 1), ("c", 2))).least()), "b 3, c 1")
        self.assertEqual(str(Walk(Rose(FOUR)).least()), "-")


if __name__ == "__main__":
    unittest.main()

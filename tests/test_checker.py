import ast
import itertools
import pathlib
import random
import unittest

from grounds import place_of, ring, rings_there_are
from rosenames import checker
from rosenames.checker import holds
from rosenames.roses import Rose
from rosenames.spreads import Spread
from rosenames.turns import Turn
from rosenames.walks import Walk
from samples import GREAT
from things import NUMBERS, TEXTS, THINGS, Alike, deep

MANIES = [many for many in range(3, 257) if many in {size * 2 ** at for size in (1, 3, 5, 7) for at in range(9)}]
OTHER_MANIES = [0, 1, 2, 9, 11, 13, 15, 17, 18, 21, 25, 27, 30, 35, 36, 42, 45, 63, 72, 81, 100, 127, 210, 240, 252, 255,
                257, 258, 264, 288, 320, 384, 448, 512]
STRANGE = THINGS + TEXTS + (Turn(0), Rose(("n", "e", "s")), Walk(Rose(("n", "e", "s"))), Spread(Rose(("n", "e", "s"))),
                            deep(10), ((((((((((1,),),),),),),),),),))


class CheckerTest(unittest.TestCase):
    def takes(self, claim, paper):
        self.asked(claim, paper, True)

    def refuses(self, claim, paper):
        self.asked(claim, paper, False)

    def asked(self, claim, paper, wanted):
        shown = repr((claim, paper))
        self.assertIs(holds(claim, paper), wanted, shown)
        self.assertIs(holds(claim=claim, paper=paper), wanted)
        self.assertEqual(repr((claim, paper)), shown)

    def refuses_each_part_otherwise(self, claim, paper, strange=STRANGE):
        """Whatever stands in the place of a row, of a number in it or of the whole, it isn't taken."""
        whole = (claim, paper)
        for other in otherwise(whole, strange):
            self.refuses(*other)


def otherwise(thing, strange):
    """A tuple of two with one thing of it, however deep, in a form that it may not have."""
    for at, part in enumerate(thing):
        for form in forms(part, strange):
            yield thing[:at] + (form,) + thing[at + 1:]
        if isinstance(part, tuple):
            for inner in otherwise(part, strange):
                yield thing[:at] + (inner,) + thing[at + 1:]


def forms(part, strange):
    """What may not stand in the place of a part."""
    if isinstance(part, tuple):
        yield list(part)
        if part:
            yield dict.fromkeys(range(len(part)))
    elif isinstance(part, int):
        if part in (0, 1):
            yield bool(part)
        yield str(part)
        yield (part,)
        yield [part]
    else:
        yield part.encode()
        yield part + " "
        yield part.upper()
    for form in strange:
        if not isinstance(form, tuple) and not (isinstance(part, str) and isinstance(form, str)):
            yield form


def home_paper(many, chance, most=6):
    """A claim of home drawn, and its paper."""
    lengths, rings = [0] * many, []
    for first, size in chance.choices(rings_there_are(many), k=chance.randint(1, most)):
        times = chance.choice((1, 2, -1, -5, GREAT))
        rings.append((first, size, times))
        lengths = [length + times * one for length, one in zip(lengths, ring(many, first, size))]
    return ("home", tuple(lengths)), tuple(rings)


class ImportsTest(unittest.TestCase):
    def test_it_imports_nothing(self):
        tree = ast.parse(pathlib.Path(checker.__file__).read_text())
        self.assertEqual([node for node in ast.walk(tree) if isinstance(node, (ast.Import, ast.ImportFrom))], [])


class HomeTest(CheckerTest):
    def test_rings_that_come_to_lengths(self):
        chance = random.Random(1)
        for many in MANIES:
            self.takes(("home", (0,) * many), ())
            for first, size in rings_there_are(many)[:3] + rings_there_are(many)[-3:]:
                self.takes(("home", tuple(ring(many, first, size))), ((first, size, 1),))
                self.takes(("home", tuple(-one for one in ring(many, first, size))), ((first, size, -1),))
            for _ in range(4):
                claim, paper = home_paper(many, chance)
                self.takes(claim, paper)
                self.takes(claim, paper[::-1])

    def test_each_form_otherwise(self):
        chance = random.Random(2)
        for many in (3, 4, 6, 10, 14):
            self.refuses_each_part_otherwise(*home_paper(many, chance, 3))
        self.refuses_each_part_otherwise(("home", (1, 0, 1, 0)), ((0, 2, 1),))

    def test_each_number_one_more_or_less(self):
        chance = random.Random(3)
        for many in (3, 4, 5, 6, 7, 8, 12, 20, 28, 64, 256):
            for (word, lengths), rings in [home_paper(many, chance, 3) for _ in range(3)]:
                for at, by in itertools.product(range(many), (-1, 1, GREAT)):
                    self.refuses((word, lengths[:at] + (lengths[at] + by,) + lengths[at + 1:]), rings)
                for at, (first, size, times) in enumerate(rings):
                    for other in ((first, size, times + 1), (first, size, times - 1), (first, size, -times),
                                  (first, size, 0), (first, size + 1, times), (first, size - 1, times),
                                  (many // size, size, times), (-1, size, times), (first - many // size, size, times),
                                  (first + many // size, size, times)):
                        self.refuses((word, lengths), rings[:at] + (other,) + rings[at + 1:])

    def test_rings_more_or_fewer(self):
        claim, paper = ("home", (2, 1, 3, 2, 1, 3)), ((0, 2, 2), (1, 2, 1), (2, 2, 3))
        self.takes(claim, paper)
        for at in range(3):
            self.refuses(claim, paper[:at] + paper[at + 1:])
            self.refuses(claim, paper + paper[at:at + 1])
        self.refuses(claim, ())
        self.takes(claim, ((0, 2, 1),) + paper[1:] + ((0, 2, 1),))
        self.takes(claim, paper + ((1, 3, 5), (1, 3, -5)))
        self.refuses(("home", (0,) * 6), ((0, 2, 0),))
        self.refuses(("home", (0,) * 6), ((),))
        self.refuses(("home", (1, 0, 0, 1, 0, 0)), ((0, 2),))
        self.refuses(("home", (1, 0, 0, 1, 0, 0)), ((0, 2, 1, 0),))
        self.refuses(("home", (1, 0, 0, 1, 0, 0)), (0, 2, 1))

    def test_sizes_that_there_are_not(self):
        self.refuses(("home", (1,) * 4), ((0, 4, 1),))
        self.refuses(("home", (1,) * 6), ((0, 6, 1),))
        self.refuses(("home", (1,) * 8), ((0, 8, 1),))
        self.refuses(("home", (1, 0, 0, 0)), ((0, 1, 1),))
        self.takes(("home", (1,) * 4), ((0, 2, 1), (1, 2, 1)))
        for many in (3, 4, 5, 6, 7, 8, 10, 12, 14, 256):
            for size in (-7, -3, -2, -1, 0, 1, 2, 3, 4, 5, 6, 7, 8, 9, 10, 11, 12, 14, many, GREAT):
                if size not in (2, 3, 5, 7) or many % size != 0:
                    for lengths in ((0,) * many, (1,) * many, (1,) + (0,) * (many - 1)):
                        for first in (0, 1):
                            self.refuses(("home", lengths), ((first, size, 1),))
        self.refuses(("home", (1, 0, 1, 0)), ((0, True, 1),))

    def test_places_beyond(self):
        self.takes(("home", (0, 1, 0, 1)), ((1, 2, 1),))
        for first in (2, 3, 4, 5, -1, -3, GREAT, -GREAT):
            self.refuses(("home", (0, 1, 0, 1)), ((first, 2, 1),))
        for first in (1, 2, 3, -1, True, False):
            self.refuses(("home", (1, 1, 1)), ((first, 3, 1),))

    def test_rings_that_go_round_in_part_alone(self):
        # Lengths at each place from FIRST on that a ring would have, without the ones ahead.
        for many in (3, 4, 5, 6, 7, 8, 12, 20):
            for size in (2, 3, 5, 7):
                apart = many // size
                if many % size == 0:
                    for first in range(apart, many + apart):
                        places = list(range(first, many, apart))
                        lengths = tuple(int(place in places) for place in range(many))
                        self.refuses(("home", lengths), ((first, size, 1),))
                    for first in range(-many, 0):
                        lengths = [0] * many
                        for place in range(first, many, apart):
                            lengths[place] += 1
                        self.refuses(("home", tuple(lengths)), ((first, size, 1),))

    def test_other_numbers_of_places(self):
        for many in OTHER_MANIES:
            self.refuses(("home", (0,) * many), ())
            for size in (2, 3, 5, 7):
                if many > 0 and many % size == 0:
                    self.refuses(("home", tuple(ring(many, 0, size))), ((0, size, 1),))

    def test_whatever_is_taken_is_so(self):
        chance = random.Random(4)
        taken = 0
        for _ in range(4000):
            many = chance.choice((3, 4, 5, 6, 8))
            there = rings_there_are(many)
            rings = tuple((*chance.choice(there), chance.choice((-1, 1))) for _ in range(chance.randint(0, 2)))
            lengths = tuple(chance.choice((0, 0, 0, 1, -1)) for _ in range(many))
            if holds(("home", lengths), rings):
                taken += 1
                self.assertFalse(any(place_of(lengths)))
        self.assertGreater(taken, 50)


class AwayTest(CheckerTest):
    def fits(self, many, modulus, root):
        """Whether all rings come to 0 in rests by the modulus, and ROOT is one as the document says."""
        if many % 2 == 1:
            return sum(root ** at for at in range(many)) % modulus == 0
        odd = [size for size in (3, 5, 7) if many % size == 0]
        if odd:
            power = root ** (many // (2 * odd[0]))
            return sum((-power) ** at for at in range(odd[0])) % modulus == 0
        return (root ** (many // 2) + 1) % modulus == 0

    def test_every_small_paper(self):
        chance = random.Random(5)
        taken = refused = 0
        for many in (3, 4, 5, 6, 7, 8, 10, 12, 14, 16, 20, 24, 28):
            for modulus in range(2, 50):
                for root in range(modulus):
                    lengths = tuple(chance.randint(-3, 3) for _ in range(many))
                    worth = sum(length * root ** at for at, length in enumerate(lengths)) % modulus
                    wanted = self.fits(many, modulus, root) and worth != 0
                    self.asked(("away", lengths), (modulus, root), wanted)
                    if wanted:
                        taken += 1
                        self.assertTrue(any(place_of(lengths)))
                        for first, size in rings_there_are(many):
                            more = [-7 * one for one in ring(many, first, size)]
                            self.takes(("away", tuple(map(sum, zip(lengths, more)))), (modulus, root))
                    else:
                        refused += self.fits(many, modulus, root)
        self.assertGreater(taken, 100)
        self.assertGreater(refused, 10)

    def test_whatever_goes_home_is_not_taken(self):
        chance = random.Random(6)
        for many in (3, 4, 5, 6, 7, 8, 12):
            for _ in range(3):
                lengths = home_paper(many, chance)[0][1]
                for modulus, root in itertools.product(range(2, 40), range(40)):
                    self.refuses(("away", lengths), (modulus, root))

    def test_by_primes_of_all_numbers_of_places(self):
        for many in MANIES:
            modulus = many + 1
            while any(modulus % divisor == 0 for divisor in range(2, int(modulus ** 0.5) + 1)):
                modulus += many
            for base in range(2, modulus):
                root = pow(base, modulus // many, modulus)
                if len({pow(root, at, modulus) for at in range(many)}) == many:
                    break
            for place in (0, 1, many - 1):
                lengths = tuple(1 if at == place else 0 for at in range(many))
                self.takes(("away", lengths), (modulus, root))
                self.takes(("away", tuple(-GREAT * modulus + 3 * length for length in lengths)), (modulus, root))
                self.refuses(("away", tuple(modulus * length for length in lengths)), (modulus, root))
                self.refuses(("away", lengths), (modulus, 1))
                self.refuses(("away", lengths), (modulus, 0))
            self.refuses(("away", (1,) * many), (modulus, root))
            self.refuses(("away", (0,) * many), (modulus, root))

    def test_examples(self):
        self.takes(("away", (1, 0, 0, 0)), (5, 2))
        self.takes(("away", (1, 0, 0, 0)), (5, 3))
        self.takes(("away", (1, 0, 0, 0)), (10, 3))
        self.takes(("away", (1, 0, 0, 0)), (2, 1))
        self.refuses(("away", (1, 0, 0, 0)), (5, 4))
        self.refuses(("away", (5, 0, 0, 0)), (5, 2))
        self.refuses(("away", (2, 0, 0, 0)), (2, 1))
        self.takes(("away", (1, 0, 0)), (7, 2))
        self.takes(("away", (1, 0, 0)), (3, 1))
        self.refuses(("away", (1, 0, 0)), (7, 3))
        self.takes(("away", (1, 0, 0, 0, 0, 0)), (7, 3))
        self.takes(("away", (1, 0, 0, 0, 0, 0)), (3, 2))
        # By 6 opposite winds come to 0, but no rings of three.
        self.refuses(("away", (1, 0, 0, 0, 0, 0)), (7, 6))
        # By 2 rings of three come to 0, but no opposite winds.
        self.refuses(("away", (1, 0, 0, 0, 0, 0)), (7, 2))

    def test_modulus_and_root_beyond(self):
        lengths = (1, 0, 0, 0)
        for modulus in (1, 0, -1, -2, -5, -10, -GREAT):
            for root in (-3, -2, -1, 0, 1, 2, 3):
                self.refuses(("away", lengths), (modulus, root))
        for root in (-2, -3, 7, 8, 12, 5 * GREAT + 2, 2 - 5 * GREAT):
            self.refuses(("away", lengths), (5, root))
        self.refuses(("away", lengths), (2, 2))
        self.refuses(("away", lengths), (2, 3))
        # By rests -1 is 1 of 2, and 2 of 3, which fit.
        self.refuses(("away", lengths), (2, -1))
        self.refuses(("away", (1, 0, 0, 0, 0, 0)), (3, -1))
        self.refuses(("away", (1, 0, 0)), (3, -2))
        self.takes(("away", lengths), (GREAT ** 2 + 1, GREAT))
        self.refuses(("away", lengths), (GREAT ** 2, GREAT))
        self.refuses(("away", lengths), (GREAT ** 2 + 2, GREAT))

    def test_each_form_otherwise(self):
        self.refuses_each_part_otherwise(("away", (1, 0, 0, 0)), (5, 2))
        self.refuses_each_part_otherwise(("away", (2, 1, 0)), (7, 2))
        self.refuses_each_part_otherwise(("away", (2, 1, 0, -1, 1, 1)), (7, 3))
        self.refuses(("away", (1, 0, 0)), (3, True))
        self.refuses(("away", (1, 0, 0, 0)), (2, True))

    def test_parts_more_or_fewer(self):
        for paper in ((), (5,), (5, 2, 1), (5, 2, 0), ((5, 2),), 5, 2):
            self.refuses(("away", (1, 0, 0, 0)), paper)

    def test_other_numbers_of_places(self):
        for many in OTHER_MANIES:
            if many > 0:
                for modulus, root in itertools.product((2, 3, 5, 7, 10, 13, 31, 37), range(8)):
                    self.refuses(("away", (1,) + (0,) * (many - 1)), (modulus, root))
        self.refuses(("away", ()), (5, 2))


def least_paper(many, chance):
    """A claim of the least drawn, and its paper: pulls first, then lengths where they are 1."""
    pulls = drawn_pulls(many, chance)
    least = [chance.choice((0, 1, 3, GREAT)) if pull == 1 else 0 for pull in pulls]
    lengths, rings = list(least), []
    for first, size in chance.choices(rings_there_are(many), k=3):
        times = chance.choice((1, 2, GREAT))
        rings.append((first, size, -times))
        lengths = [length + times * one for length, one in zip(lengths, ring(many, first, size))]
    return ("least", tuple(lengths), tuple(least)), (tuple(rings), tuple(pulls))


def drawn_pulls(many, chance):
    """Pulls that come to 0 along each ring."""
    if many % 2 == 1:
        pulls = [1] * many
        pulls[chance.randrange(many)] = 1 - many
        return pulls
    odd = ([size for size in (3, 5, 7) if many % size == 0] or [1])[0]
    pulls = [0] * many
    for first in range(many // odd // 2):
        along = [1, -1] * (odd // 2) + [0] if odd > 1 else [chance.choice((1, -1, 0))]
        chance.shuffle(along)
        for at, pull in enumerate(along):
            place = (first + at * (many // odd)) % many
            pulls[place], pulls[place - many // 2] = pull, -pull
    return pulls


class LeastTest(CheckerTest):
    def test_papers_drawn(self):
        chance = random.Random(7)
        for many in MANIES:
            for _ in range(4):
                self.takes(*least_paper(many, chance))
            self.takes(("least", (0,) * many, (0,) * many), ((), tuple(drawn_pulls(many, chance))))
            self.takes(("least", (0,) * many, (0,) * many), ((), (0,) * many))
            self.refuses(("least", (2,) * many, (2,) * many), ((), (0,) * many))

    def test_each_form_otherwise(self):
        chance = random.Random(8)
        for many in (3, 4, 6, 10):
            self.refuses_each_part_otherwise(*least_paper(many, chance), strange=STRANGE[::3])
        self.refuses_each_part_otherwise(("least", (2, 0, 1, 0), (1, 0, 0, 0)), (((0, 2, -1),), (1, 0, -1, 0)))

    def test_each_number_one_more_or_less(self):
        chance = random.Random(9)
        for many in (3, 4, 5, 6, 7, 8, 12, 20, 28, 96, 224):
            for (word, lengths, least), (rings, pulls) in [least_paper(many, chance) for _ in range(3)]:
                for at, by in itertools.product(range(many), (-1, 1)):
                    self.refuses((word, moved(lengths, at, by), least), (rings, pulls))
                    self.refuses((word, lengths, moved(least, at, by)), (rings, pulls))
                    self.refuses((word, lengths, least), (rings, moved(pulls, at, by)))
                for at, (first, size, times) in enumerate(rings):
                    for other in ((first, size, times + 1), (first, size, 0), (first, 4, times), (many, size, times)):
                        self.refuses((word, lengths, least), (rings[:at] + (other,) + rings[at + 1:], pulls))

    def test_lengths_below_0(self):
        pulls = (1, 1, -1, -1)
        self.takes(("least", (1, 1, 0, 0), (1, 1, 0, 0)), ((), pulls))
        self.refuses(("least", (1, 0, 0, -1), (1, 1, 0, 0)), (((1, 2, 1),), pulls))
        self.refuses(("least", (1, 1, -1, -1), (1, 1, -1, -1)), ((), (1, 1, -1, -1)))
        self.refuses(("least", (0, 0, -1, 0), (0, 0, -1, 0)), ((), (-1, 0, 1, 0)))
        self.refuses(("least", (1, 0, 0, 0), (0, 0, -1, 0)), (((0, 2, -1),), (-1, 0, 1, 0)))

    def test_numbers_of_lengths_and_pulls(self):
        self.takes(("least", (1, 0, 0, 0), (1, 0, 0, 0)), ((), (1, 0, -1, 0)))
        for pulls in ((1, 0, -1), (1, 0, -1, 0, 0), (), (1, 0, -1, 0, 0, 0)):
            self.refuses(("least", (1, 0, 0, 0), (1, 0, 0, 0)), ((), pulls))
        for least in ((1, 0, 0), (1, 0, 0, 0, 0), (1, 0, 0, 0, 0, 0, 0, 0), ()):
            self.refuses(("least", (1, 0, 0, 0), least), ((), (1, 0, -1, 0)))
            self.refuses(("least", least, (1, 0, 0, 0)), ((), (1, 0, -1, 0)))
        self.refuses(("least", (0,) * 4, (0,) * 8), ((), (0,) * 8))
        self.refuses(("least", (0,) * 8, (0,) * 4), ((), (0,) * 8))
        for paper in ((), ((),), ((1, 0, -1, 0),), ((), (1, 0, -1, 0), ()), ((1, 0, -1, 0), ())):
            self.refuses(("least", (1, 0, 0, 0), (1, 0, 0, 0)), paper)

    def test_pulls_above_1(self):
        lengths = (1, 1, 1, 0, 0, 0, 0, 0)
        self.takes(("least", lengths, lengths), ((), (1, 1, 1, 0, -1, -1, -1, 0)))
        self.refuses(("least", lengths, lengths), ((), (2, 0, 1, 0, -2, 0, -1, 0)))
        self.refuses(("least", lengths, lengths), ((), (1, 1, 1, 2, -1, -1, -1, -2)))
        self.refuses(("least", lengths, lengths), ((), (1, 1, 1, -2, -1, -1, -1, 2)))
        # Pulls far below 0 are none above 1.
        self.takes(("least", (3, 1, 0), (3, 1, 0)), ((), (1, 1, -2)))
        self.takes(("least", (1, 0, 0, 0, 0), (1, 0, 0, 0, 0)), ((), (1, 1, -4, 1, 1)))
        self.takes(("least", (1, 0, 0, 0, 0), (1, 0, 0, 0, 0)), ((), (1, 1, 1, 1, -4)))
        self.takes(("least", (1, 0, 0, 0, 0), (1, 0, 0, 0, 0)), ((), (1, 0, -1, 1, -1)))
        self.refuses(("least", (1, 0, 0, 0, 0), (1, 0, 0, 0, 0)), ((), (1, 2, -1, -1, -1)))

    def test_pulls_not_0_along_a_ring(self):
        one = (1, 0, 0, 0, 0, 0)
        self.takes(("least", one, one), ((), (1, 0, -1, -1, 0, 1)))
        self.refuses(("least", one, one), ((), (1, 0, 0, -1, 0, 0)))
        self.refuses(("least", one, one), ((), (1, -1, 0, 1, -1, 0)))
        self.refuses(("least", one, one), ((), (1, 1, 1, 1, 1, 1)))
        self.refuses(("least", (1, 0, 0), (1, 0, 0)), ((), (1, 1, 1)))
        self.refuses(("least", (1, 0, 0, 0), (1, 0, 0, 0)), ((), (1, -1, 0, 0)))
        self.refuses(("least", (1, 0, 0, 0, 1), (1, 0, 0, 0, 1)), ((), (1, 0, 0, 0, 1)))

    def test_pulls_that_do_not_come_to_all(self):
        two = (1, 1, 0, 0)
        self.takes(("least", two, two), ((), (1, 1, -1, -1)))
        self.refuses(("least", two, two), ((), (1, 0, -1, 0)))
        self.refuses(("least", two, two), ((), (0, 0, 0, 0)))
        self.refuses(("least", two, two), ((), (-1, -1, 1, 1)))

    def test_rings_that_do_not_come_to_the_least(self):
        pulls = (1, 0, -1, 0)
        self.takes(("least", (3, 1, 2, 1), (1, 0, 0, 0)), (((0, 2, -2), (1, 2, -1)), pulls))
        self.refuses(("least", (3, 1, 2, 1), (1, 0, 0, 0)), (((0, 2, 2), (1, 2, 1)), pulls))
        self.refuses(("least", (3, 1, 2, 1), (1, 0, 0, 0)), (((0, 2, -2),), pulls))
        self.refuses(("least", (3, 1, 2, 1), (1, 0, 0, 0)), ((), pulls))
        self.refuses(("least", (3, 1, 2, 1), (3, 1, 2, 1)), ((), pulls))
        self.refuses(("least", (1, 0, 0, 0), (3, 1, 2, 1)), (((0, 2, 2), (1, 2, 1)), pulls))

    def test_other_numbers_of_places(self):
        for many in OTHER_MANIES:
            self.refuses(("least", (0,) * many, (0,) * many), ((), (0,) * many))

    def test_whatever_is_taken_is_so(self):
        chance = random.Random(10)
        taken = 0
        for many in (3, 4, 6):
            tried = list(itertools.product(range(-2, 2), repeat=many)) if many < 6 else None
            for lengths in itertools.product(range(3 if many < 6 else 2), repeat=many):
                pullings = tried if tried else [tuple(drawn_pulls(many, chance)) for _ in range(5)]
                if any(holds(("least", lengths, lengths), ((), pulls)) for pulls in pullings):
                    taken += 1
                    for others in itertools.product(range(3 if many < 6 else 2), repeat=many):
                        if sum(others) < sum(lengths):
                            self.assertNotEqual(place_of(others), place_of(lengths))
        self.assertGreater(taken, 20)


def moved(row, at, by):
    """A row with one number of it more."""
    return row[:at] + (row[at] + by,) + row[at + 1:]


def fewest_paper(many, several, chance):
    """A claim of so many stretches drawn, and its paper."""
    cuts = sorted(chance.sample(range(many), 2 * several)) if several > 1 else []
    turn = chance.randrange(2)
    pairs = [(cuts[at - turn], cuts[at + 1 - turn]) for at in range(0, 2 * several, 2)] if several > 1 else []
    must = [one for one, other in pairs]
    bar = [other for one, other in pairs]
    stretches = []
    for one, other in pairs:
        long = chance.randint(1, (other - one) % many)
        stretches.append((one, long))
        must.append((one + chance.randrange(long)) % many)
    return ("fewest", many, tuple(sorted(set(must))), tuple(sorted(bar)), tuple(stretches)), tuple(pairs)


class FewestTest(CheckerTest):
    def test_papers_drawn(self):
        chance = random.Random(11)
        for many in MANIES:
            for several in range(2, min(many // 2, 6) + 1):
                claim, paper = fewest_paper(many, several, chance)
                self.takes(claim, paper)
                for at in range(several):
                    self.takes(claim, paper[at:] + paper[:at])
                self.takes(claim[:4] + (claim[4][::-1],), paper)
                self.takes(claim[:4] + (claim[4][::-1],), paper[1:] + paper[:1])

    def test_none_and_one(self):
        for many in MANIES:
            everything = tuple(range(many))
            self.takes(("fewest", many, (), (), ()), ())
            self.takes(("fewest", many, (), everything, ()), ())
            self.takes(("fewest", many, everything, (), ((0, many),)), ())
            self.takes(("fewest", many, everything, (), ((many - 1, many),)), ())
            self.takes(("fewest", many, (0,), everything[1:], ((0, 1),)), ())
            self.takes(("fewest", many, (0,), (), ((many - 1, 2),)), ())
            self.takes(("fewest", many, everything[1:], (0,), ((1, many - 1),)), ())
            self.refuses(("fewest", many, (), (), ((0, 1),)), ())
            self.refuses(("fewest", many, (0,), (), ()), ())
            self.refuses(("fewest", many, (0,), (1,), ((0, 1),)), ((0, 1),))
            self.refuses(("fewest", many, (), (), ()), ((0, 1),))
            self.refuses(("fewest", many, everything[1:], (0,), ((1, many),)), ())
            self.refuses(("fewest", many, everything[1:], (0,), ((1, many - 2),)), ())

    def test_each_form_otherwise(self):
        chance = random.Random(12)
        for many, several in ((4, 2), (6, 2), (8, 3), (12, 2)):
            self.refuses_each_part_otherwise(*fewest_paper(many, several, chance), strange=STRANGE[::2])
        for claim in (("fewest", 4, (0, 1), (2,), ((0, 2),)), ("fewest", 3, (), (0, 1), ())):
            self.takes(claim, ())
            self.refuses_each_part_otherwise(claim, ())

    def test_manies(self):
        for many in MANIES:
            self.takes(("fewest", many, (1,), (2,), ((1, 1),)), ())
        for many in OTHER_MANIES + [-3, -4, -8, GREAT, 2 ** 99, 3 * 2 ** 80, True, None, "4", (4,), [4]]:
            self.refuses(("fewest", many, (), (), ()), ())
            self.refuses(("fewest", many, (1,), (2,), ((1, 1),)), ())
            self.refuses(("fewest", many, (0,), (), ((0, 1),)), ())

    def test_places(self):
        self.takes(("fewest", 8, (1, 3), (5, 7), ((1, 3),)), ())
        for must in ((3, 1), (1, 1, 3), (1, 3, 3), (1, 3, 8), (-1, 1, 3), (1, 3, 5), (1, 3, 7), (1, 11), (1, 3, -7),
                     (1, 3, GREAT), (3, 2, 1), (True, 3), (1, None), (1, "3"), (1, (3,))):
            self.refuses(("fewest", 8, must, (5, 7), ((1, 3),)), ())
        for bar in ((7, 5), (5, 5), (5, 7, 7), (5, 8), (-1, 5), (1, 5), (3, 5), (5, 15), (False, 5), (5, None), (2,), (1,)):
            self.refuses(("fewest", 8, (1, 3), bar, ((1, 3),)), ())
        self.takes(("fewest", 8, (0, 7), (), ((7, 2),)), ())
        self.takes(("fewest", 8, (1, 2, 3), (), ((0, 5),)), ())

    def test_stretches(self):
        self.takes(("fewest", 8, (1, 3), (5, 7), ((1, 3),)), ())
        for stretch in ((1, 2), (2, 2), (1, 5), (0, 8), (7, 5), (1, 0), (1, -5), (1, 9), (-7, 3), (9, 3), (1, True),
                        (1,), (1, 3, 1), (), 1, None, (1, None), ("1", 3), (True, 3)):
            self.refuses(("fewest", 8, (1, 3), (5, 7), (stretch,)), ())
        self.takes(("fewest", 8, (1, 3), (5, 7), ((0, 5),)), ())
        self.takes(("fewest", 8, (1,), (), ((1, 8),)), ())
        self.refuses(("fewest", 8, (1,), (), ((1, 9),)), ())
        self.refuses(("fewest", 8, (1,), (), ((2, 9),)), ())
        self.takes(("fewest", 8, (1,), (), ((2, 8),)), ())
        self.refuses(("fewest", 8, (1,), (), ((1, 0),)), ())
        # Two where one is enough: no pairs can show it.
        for paper in ((), ((1, 5), (3, 7)), ((1, 5), (1, 7)), ((1, 5),), ((1, 7), (3, 5)), ((3, 5), (1, 7))):
            self.refuses(("fewest", 8, (1, 3), (5, 7), ((1, 1), (3, 1))), paper)

    def test_pairs(self):
        claim = ("fewest", 16, (1, 2, 5, 9, 10), (3, 7, 8, 12, 15), ((1, 2), (5, 1), (9, 2)))
        for paper in (((1, 3), (5, 7), (9, 12)), ((2, 3), (5, 8), (10, 15)), ((1, 3), (5, 8), (9, 15)),
                      ((5, 7), (9, 12), (1, 3)), ((5, 7), (9, 15), (2, 3)), ((10, 12), (1, 3), (5, 7))):
            self.takes(claim, paper)
        for paper in (
            (), ((1, 3),), ((1, 3), (5, 7)), ((1, 3), (5, 7), (9, 12), (1, 3)), ((1, 3), (5, 7), (10, 12), (1, 15)),
            ((1, 3), (9, 12), (5, 7)), ((5, 7), (1, 3), (9, 12)), ((1, 3), (1, 3), (1, 3)), ((1, 3), (5, 7), (5, 8)),
            ((1, 3), (2, 7), (9, 12)), ((1, 7), (5, 8), (9, 12)), ((1, 3), (5, 12), (9, 15)), ((1, 3), (5, 7), (9, 3)),
            ((3, 5), (7, 9), (12, 1)), ((3, 1), (7, 5), (12, 9)), ((1, 3), (5, 7), (9, 13)), ((0, 3), (5, 7), (9, 12)),
            ((1, 3), (5, 7), (9, 28)), ((1, 3), (5, 7), (25, 12)), ((17, 3), (5, 7), (9, 12)), ((-15, 3), (5, 7), (9, 12)),
            ((True, 3), (5, 7), (9, 12)), ((1, 3, 5), (5, 7), (9, 12)), ((1,), (5, 7), (9, 12)), ((), (5, 7), (9, 12)),
            (1, 3, 5, 7, 9, 12), ((1, 3), (5, 7), None), ((1, 3), (5, 7), (9, None)), ((1, 3), [5, 7], (9, 12)),
            [(1, 3), (5, 7), (9, 12)], ((1, 3), (5, 7), (9, 12), ()), ((1, 2), (5, 7), (9, 12)), ((1, 3), (4, 7), (9, 12)),
        ):
            self.refuses(claim, paper)

    def test_more_than_once_round(self):
        # Pairs that follow one another on, each on from the last, but twice round.
        claim = ("fewest", 8, (0, 4), (2, 6), ((0, 1), (4, 1), (0, 1), (4, 1)))
        self.refuses(claim, ((0, 2), (4, 6), (0, 2), (4, 6)))
        self.refuses(claim, ((0, 6), (4, 2), (0, 6), (4, 2)))
        self.refuses(("fewest", 8, (0, 4), (2, 6), ((0, 1), (4, 1))), ((0, 6), (4, 2)))
        self.takes(("fewest", 8, (0, 4), (2, 6), ((0, 1), (4, 1))), ((0, 2), (4, 6)))
        self.takes(("fewest", 8, (0, 4), (2, 6), ((0, 1), (4, 1))), ((4, 6), (0, 2)))
        self.refuses(("fewest", 8, (0,), (2,), ((0, 1), (0, 1))), ((0, 2), (0, 2)))

    def test_whatever_is_taken_is_so(self):
        chance = random.Random(13)
        taken = 0
        for _ in range(20000):
            many = chance.choice((4, 5, 6))
            kinds = [chance.randrange(3) for _ in range(many)]
            must = tuple(place for place in range(many) if kinds[place] == 1)
            bar = tuple(place for place in range(many) if kinds[place] == 2)
            stretches = tuple((chance.randrange(many), chance.choice((1, 1, 2, 3))) for _ in range(chance.randint(0, 3)))
            paper = ()
            if len(stretches) > 1 and must and bar:
                paper = tuple((chance.choice(must), chance.choice(bar)) for _ in stretches)
            if holds(("fewest", many, must, bar, stretches), paper):
                taken += 1
                needed = len([place for place in bar if self.must_ahead(place, many, must, bar)])
                self.assertEqual(len(stretches), needed if bar else min(1, len(must)))
        self.assertGreater(taken, 200)

    def must_ahead(self, barred, many, must, bar):
        """Whether a wind that must be there lies between a barred one and the one ahead of it."""
        place = (barred - 1) % many
        while place not in bar:
            if place in must:
                return True
            place = (place - 1) % many
        return False


class OtherClaimsTest(CheckerTest):
    def test_other_words(self):
        lengths, rings = (1, 0, 1, 0), ((0, 2, 1),)
        self.takes(("home", lengths), rings)
        for word in ("", "Home", "home ", "homes", "hom", "away", "least", "fewest", "none", b"home", None, 0, True, (),
                     ("home",), ["home"], Alike(), deep(9), "home\n"):
            self.refuses((word, lengths), rings)
            self.refuses((word,), rings)
            self.refuses((word, lengths, lengths), rings)
        self.refuses((lengths,), rings)
        self.refuses((lengths, "home"), rings)
        self.refuses((), ())
        self.refuses("home", rings)
        self.refuses("away", (5, 2))

    def test_parts_more_or_fewer(self):
        chance = random.Random(14)
        for claim, paper in (home_paper(6, chance), (("away", (1, 0, 0, 0)), (5, 2)), least_paper(6, chance),
                             fewest_paper(12, 3, chance), (("fewest", 4, (), (), ()), ())):
            self.takes(claim, paper)
            for at in range(len(claim)):
                self.refuses(claim[:at] + claim[at + 1:], paper)
                self.refuses(claim[:at] + claim[at:at + 1] + claim[at:], paper)
            for more in ((), 0, None, paper):
                self.refuses(claim + (more,), paper)
            self.refuses((claim, paper), ())
            self.refuses((claim,), paper)
            self.refuses(paper, claim)

    def test_things_of_any_kind(self):
        chance = random.Random(15)
        home = ("home", (0,) * 4)
        things = STRANGE + NUMBERS + (home, ((0, 2, 1),), (5, 2), (0,) * 4)
        for claim, paper in itertools.product(things, things):
            self.asked(claim, paper, claim is home and isinstance(paper, tuple) and paper == ())
        for _ in range(3000):
            word = chance.choice(("home", "away", "least", "fewest"))
            parts = tuple(self.grown(chance, 8) for _ in range(chance.randint(0, 5)))
            told = holds((word, *parts), self.grown(chance, 9))
            self.assertIn(told, (True, False))
            self.assertIs(type(told), bool)

    def grown(self, chance, depth):
        """A thing of any kind, at most so deep."""
        if depth == 0 or chance.random() < 0.4:
            return chance.choice(STRANGE[:20] + NUMBERS + TEXTS)
        inner = [self.grown(chance, depth - 1) for _ in range(chance.choice((0, 1, 2, 3, 4)))]
        return chance.choice((tuple, tuple, tuple, list))(inner)

    def test_lists_inside_stay(self):
        claim = ("home", [1, 0, 1, 0])
        paper = [[0, 2, 1]]
        self.refuses(claim, paper)
        self.assertEqual((claim, paper), (("home", [1, 0, 1, 0]), [[0, 2, 1]]))


if __name__ == "__main__":
    unittest.main()

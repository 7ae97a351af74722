import random
import unittest

from refusals import alike, never_alike, refused
from rosenames.errors import NoName, NoPair, NoStep, NoWord
from rosenames.roses import Rose
from rosenames.spreads import Spread, gathered
from rosenames.turns import Turn
from rosenames.winds import Wind, wind_of, winds
from samples import GREAT, names_by_part, own_names, part_of, roses, wind_parts
from things import NUMBERS, TEXTS, THINGS, deep

FOUR = ("n", "e", "s", "w")


def sets_of_places(rose, chance):
    """Some sets of places of a rose: none, all, one, all but one, some."""
    many = len(rose)
    sets = [set(), set(range(many)), {0}, {many - 1}, {0, many - 1}, set(range(1, many)), set(range(many - 1))]
    for _ in range(4):
        sets.append({place for place in range(many) if chance.random() < 0.5})
    begin, long = chance.randrange(many), chance.randrange(1, many)
    sets.append({(begin + more) % many for more in range(long)})
    return sets


def made(rose, places):
    """The spread of these places, by own names."""
    own = own_names(rose)
    return Spread(rose, tuple(own[place] for place in sorted(places)))


def places_in(spread):
    return {wind.place() for wind in spread.winds_in()}


def some_spreads(halvings):
    chance = random.Random(15)
    for rose in roses(halvings=halvings):
        for places in sets_of_places(rose, chance):
            yield rose, places, made(rose, places)


class MakingTest(unittest.TestCase):
    def check(self, spread, rose, places):
        self.assertIsInstance(spread, Spread)
        self.assertEqual(spread.rose, rose)
        self.assertEqual(len(spread), len(places))
        self.assertIs(bool(spread), len(places) > 0)
        told = spread.winds_in()
        self.assertIs(type(told), list)
        self.assertTrue(all(isinstance(wind, Wind) and wind.rose == rose for wind in told))
        self.assertEqual([wind.place() for wind in told], sorted(places))
        self.assertEqual([part_of(wind.turn) for wind in told], [wind_parts(rose)[place] for place in sorted(places)])

    def test_no_names(self):
        for rose in roses(halvings=(0, 2)):
            self.check(Spread(rose), rose, set())
            self.check(Spread(rose, None), rose, set())
            self.check(Spread(rose, names=None), rose, set())
            self.check(Spread(rose, ()), rose, set())

    def test_own_names(self):
        for rose, places, spread in some_spreads((0, 1, 3, 5)):
            self.check(spread, rose, places)

    def test_other_names_and_names_again(self):
        chance = random.Random(16)
        for rose in roses(halvings=(1, 2, 4)):
            names = names_by_part(rose)
            parts = wind_parts(rose)
            for places in sets_of_places(rose, chance):
                others = [names[parts[place]][-1] for place in places]
                both = [name for place in places for name in names[parts[place]]]
                for given in (others, both, both + others, both * 2):
                    chance.shuffle(given)
                    self.check(Spread(rose, tuple(given)), rose, places)

    def test_by_place_and_by_keyword(self):
        rose = Rose(FOUR)
        self.check(Spread(rose, ("n", "e<")), rose, {0, 2})
        self.check(Spread(rose, names=("n", "e<", "n>")), rose, {0, 2})
        self.check(Spread(names=("n<<",), rose=rose), rose, {13})

    def test_what_was_handed_in_stays(self):
        names = ("w", "n", "n", "e<")
        Spread(Rose(FOUR), names).joined(Spread(Rose(FOUR), names))
        self.assertEqual(names, ("w", "n", "n", "e<"))

    def test_gathered(self):
        rose = Rose(FOUR, 2, Turn(1, 3))
        corners = {0, 4, 8, 12}
        everything = set(range(16))
        for where, places in (
            (lambda wind: True, everything),
            (lambda wind: None, set()),
            (lambda wind: 0, set()),
            (lambda wind: wind, everything - corners),
            (len, everything - corners),
            (lambda wind: "" if len(wind) else "corner", corners),
            (lambda wind: wind.place() - 3, everything - {3}),
            (lambda wind: [], set()),
            (lambda wind: [False], everything),
            (lambda wind: str(wind).startswith("n"), {0, 1, 2, 15}),
        ):
            self.check(gathered(rose, where), rose, places)
            self.check(gathered(where=where, rose=rose), rose, places)

    def test_gathered_of_many_roses(self):
        chance = random.Random(17)
        for rose in roses(halvings=(0, 3, 5)):
            for places in sets_of_places(rose, chance):
                self.check(gathered(rose, lambda wind: wind.place() in places), rose, places)

    def test_a_new_list_each_time(self):
        spread = Spread(Rose(FOUR), ("n", "s>"))
        first = spread.winds_in()
        self.assertIsNot(spread.winds_in(), first)
        ahead = list(first)
        first.clear()
        self.assertEqual(spread.winds_in(), ahead)
        spread.winds_in().append(None)
        self.assertEqual(spread.winds_in(), ahead)
        self.assertEqual((len(spread), str(spread)), (2, "n, s>"))


class RefusedNamesTest(unittest.TestCase):
    def no_name(self, rose, names, at):
        self.assertEqual(refused(self, NoName, lambda: Spread(rose, names)).at, at)
        self.assertEqual(refused(self, NoName, lambda: Spread(rose, names=names)).at, at)

    def no_word(self, rose, names, word):
        self.assertEqual(refused(self, NoWord, lambda: Spread(rose, names)).word, word)

    def test_no_names(self):
        rose = Rose(FOUR, 2)
        for name, at in (("", 0), (">", 0), ("N", 0), ("n ", 1), (" n", 0), ("n>>>", 3), ("x>>>", 3), ("n>e", 2),
                         ("zephyrs", 6), ("-", 0), ("n..e", 1), ("n, e", 1)):
            self.no_name(rose, (name,), at)
            self.no_name(rose, ("n", "e", name, "s"), at)
        self.no_name(Rose(FOUR, 0), ("n", "n>"), 1)

    def test_no_texts(self):
        for thing in THINGS + NUMBERS + (Turn(0), deep(9), ["n"], ("n",), Wind(Rose(FOUR), Turn(0))):
            self.no_name(Rose(FOUR), (thing,), 0)
            self.no_name(Rose(FOUR), ("n", "e<<", thing), 0)

    def test_other_words(self):
        self.no_word(Rose(FOUR), ("x",), "x")
        self.no_word(Rose(FOUR), ("n", "foehn<>", "y"), "foehn")

    def test_the_first_that_is_amiss(self):
        rose = Rose(FOUR, 1)
        self.no_word(rose, ("n", "x", "n>>", "y"), "x")
        self.no_name(rose, ("n", "n>>", "x", ""), 2)
        self.no_name(rose, ("n", "x>>", "y"), 2)

    def test_behind_a_refusal_all_is_told_as_ahead(self):
        rose = Rose(FOUR, 1)
        self.no_name(rose, ("n", "e", None), 0)
        self.assertEqual(len(Spread(rose)), 0)
        self.assertEqual(str(Spread(rose, ("n", "e"))), "n, e")


class HasTest(unittest.TestCase):
    def test_winds_of_the_rose(self):
        for rose, places, spread in some_spreads((0, 2, 5)):
            for wind in winds(rose):
                self.assertIs(spread.has(wind), wind.place() in places)

    def test_winds_of_other_roses(self):
        others = [Rose(FOUR, 1), Rose(FOUR, 4), Rose(("a", "b", "c"), 3), Rose(("a", "b", "c", "d", "e"), 0, Turn(1, 3)),
                  Rose(FOUR, 3, Turn(1, 8))]
        met = 0
        for rose, places, spread in some_spreads((0, 2)):
            parts = [wind_parts(rose)[place] for place in places]
            for other in others:
                for wind in winds(other):
                    wanted = part_of(wind.turn) in parts
                    self.assertIs(spread.has(wind=wind), wanted)
                    met += wanted
        self.assertGreater(met, 100)


class GatheringsTest(unittest.TestCase):
    def check(self, spread, rose, places):
        self.assertIsInstance(spread, Spread)
        self.assertEqual(spread.rose, rose)
        self.assertEqual(places_in(spread), places)
        self.assertEqual(len(spread), len(places))
        alike(self, spread, made(rose, places), True)

    def test_of_two(self):
        chance = random.Random(18)
        for rose in roses(halvings=(0, 1, 3)):
            sets = sets_of_places(rose, chance)
            spreads = [made(rose, places) for places in sets]
            again = Rose(rose.words, rose.halvings, rose.begin)
            for mine, one in zip(sets, spreads):
                for theirs in sets[::2] + sets[-1:]:
                    other = made(again, theirs)
                    self.check(one.joined(other), rose, mine | theirs)
                    self.check(one.met(other), rose, mine & theirs)
                    self.check(one.without(other=other), rose, mine - theirs)
                self.assertEqual(places_in(one), mine)

    def test_rest(self):
        for rose, places, spread in some_spreads((0, 2, 4)):
            self.check(spread.rest(), rose, set(range(len(rose))) - places)
            self.check(spread.rest().rest(), rose, places)
            self.assertEqual(places_in(spread), places)

    def test_moved(self):
        for rose, places, spread in some_spreads((0, 1, 3)):
            many = len(rose)
            self.check(spread.moved(), rose, {(place + 1) % many for place in places})
            for by in (0, 1, 5, many, 1000, -1, -7, GREAT, -GREAT, 10 ** 99, 1 - 10 ** 99):
                self.check(spread.moved(by), rose, {(place + by) % many for place in places})
                self.check(spread.moved(by=by).moved(-by), rose, places)
            self.assertEqual(places_in(spread), places)

    def test_roses_that_are_not_alike(self):
        one = Spread(Rose(FOUR, 2), ("n", "e"))
        for rose in (Rose(FOUR, 1), Rose(FOUR, 2, Turn(1, 4)), Rose(("n", "e", "w", "s"), 2), Rose(("n", "e", "s"), 2)):
            for other in (Spread(rose), Spread(rose, ("n", "e"))):
                for deed in (one.joined, one.met, one.without):
                    refused(self, NoPair, lambda: deed(other))
                for deed in (other.joined, other.met, other.without):
                    refused(self, NoPair, lambda: deed(one))
        self.check(one, Rose(FOUR, 2), {0, 4})

    def test_no_steps(self):
        spread = Spread(Rose(FOUR, 2), ("n", "e"))
        for one in (spread, Spread(Rose(FOUR))):
            for thing in THINGS + TEXTS + (Turn(1, 2), spread, Rose(FOUR), deep(10)):
                self.assertIs(refused(self, NoStep, lambda: one.moved(thing)).thing, thing)
                self.assertIs(refused(self, NoStep, lambda: one.moved(by=thing)).thing, thing)
        self.check(spread, Rose(FOUR, 2), {0, 4})


class AlikeTest(unittest.TestCase):
    def test_spreads_made_otherwise(self):
        rose = Rose(FOUR, 2)
        spread = Spread(rose, ("n", "e<", "w"))
        for other in (
            Spread(Rose(FOUR), ("w", "n>", "n", "w")),
            Spread(rose, ("e", "n><", "w><")).moved(-1).joined(Spread(rose)).without(Spread(rose, ("e<>",)))
            .without(Spread(rose)).joined(Spread(rose, ("n>",))),
            gathered(rose, lambda wind: wind.place() in (0, 2, 12)),
            spread.rest().rest(),
            spread.moved(16),
        ):
            alike(self, spread, other, True)

    def test_other_winds_or_another_rose(self):
        spread = Spread(Rose(FOUR, 2), ("n", "e"))
        for names in ((), ("n",), ("n", "s"), ("n", "e", "s"), ("n", "e<")):
            alike(self, spread, Spread(Rose(FOUR, 2), names), False)
        for rose in (Rose(FOUR, 1), Rose(FOUR, 3), Rose(FOUR, 2, Turn(1, 4)), Rose(("n", "e", "s", "x"), 2)):
            alike(self, spread, Spread(rose, ("n", "e")), False)
            alike(self, Spread(Rose(FOUR, 2)), Spread(rose), False)

    def test_by_sets_of_places(self):
        chance = random.Random(19)
        for rose in roses(halvings=(0, 2)):
            sets = sets_of_places(rose, chance)
            for mine in sets:
                for theirs in sets:
                    alike(self, made(rose, mine), made(rose, theirs), mine == theirs)

    def test_a_spread_and_another_thing(self):
        rose = Rose(FOUR)
        for spread in (Spread(rose), Spread(rose, ("n",)), Spread(rose, ("n", "e"))):
            own = (rose, str(spread), repr(spread), spread.winds_in(), tuple(spread.winds_in()), spread.stretches(),
                   len(spread), (rose, spread), [spread], Spread, wind_of(rose, "n"), Turn(0))
            never_alike(self, spread, THINGS + TEXTS + NUMBERS + own)

    def test_nothing_asked_changes_a_spread(self):
        rose = Rose(FOUR, 3, Turn(1, 7))
        spread = Spread(rose, ("n", "w>>", "e"))
        other = Spread(rose, ("n", "s"))
        held = dict(vars(spread))
        for _ in range(2):
            spread.joined(other)
            spread.met(other)
            spread.without(other)
            spread.rest()
            spread.moved(3)
            spread.stretches()
            str(spread)
            repr(spread)
            spread.has(wind_of(rose, "s"))
        self.assertEqual(vars(spread), held)
        self.assertEqual(str(other), "n, s")


class StretchesTest(unittest.TestCase):
    def covered(self, rose, stretches):
        own = own_names(rose)
        found = []
        for name, long in stretches:
            found += [(own.index(name) + more) % len(rose) for more in range(long)]
        return found

    def wanted(self, rose, places):
        """How many there must be: each begins where the wind back of it isn't there."""
        if len(places) == len(rose):
            return 1
        return len([place for place in places if (place - 1) % len(rose) not in places])

    def test_the_fewest_that_have_just_the_winds(self):
        for rose, places, spread in some_spreads((0, 1, 3, 5)):
            own = own_names(rose)
            stretches = spread.stretches()
            self.assertIs(type(stretches), tuple)
            self.assertTrue(all(type(stretch) is tuple and len(stretch) == 2 for stretch in stretches))
            self.assertEqual(sorted(self.covered(rose, stretches)), sorted(places))
            self.assertEqual(len(stretches), self.wanted(rose, places))
            firsts = [own.index(name) for name, long in stretches]
            self.assertEqual(firsts, sorted(firsts))

    def test_none_one_and_all(self):
        for rose in roses():
            own = own_names(rose)
            self.assertEqual(Spread(rose).stretches(), ())
            self.assertEqual(Spread(rose).rest().stretches(), ((rose.words[0], len(rose)),))
            for place in (0, 1, len(rose) - 1):
                self.assertEqual(made(rose, {place}).stretches(), ((own[place], 1),))
                rest = made(rose, {place}).rest()
                self.assertEqual(rest.stretches(), ((own[(place + 1) % len(rose)], len(rose) - 1),))

    def test_over_the_first_corner(self):
        rose = Rose(FOUR, 2)
        self.assertEqual(Spread(rose, ("n<>", "n", "n><")).stretches(), (("n<>", 3),))
        self.assertEqual(Spread(rose, ("n<>", "n", "e", "w")).stretches(), (("e", 1), ("w", 1), ("n<>", 2)))
        self.assertEqual(Spread(rose, ("w>>", "n", "e<<")).stretches(), (("n<>", 3),))

    def test_str_and_repr(self):
        rose = Rose(FOUR, 2)
        for names, text in (
            ((), "-"),
            (("n",), "n"),
            (("e<<",), "n><"),
            (("n", "n><"), "n..n><"),
            (("n", "e", "s"), "n, e, s"),
            (("n<>", "n", "n><"), "n<>..n><"),
            (("n<>", "n", "e", "w", "w><"), "e, w..w><, n<>..n"),
            (("w>>", "n"), "n<>..n"),
        ):
            self.assertEqual(str(Spread(rose, names)), text)
            self.assertEqual(repr(Spread(rose, names)), f"Spread({text})")
        self.assertEqual(str(Spread(rose).rest()), "n..n<>")
        self.assertEqual(str(Spread(rose, ("e",)).rest()), "e><..e<>")

    def test_str_by_stretches(self):
        for rose, places, spread in some_spreads((0, 2, 5)):
            own = own_names(rose)
            parts = []
            for name, long in spread.stretches():
                last = own[(own.index(name) + long - 1) % len(rose)]
                parts.append(name if long == 1 else f"{name}..{last}")
            text = ", ".join(parts) or "-"
            self.assertEqual(str(spread), text)
            self.assertEqual(repr(spread), f"Spread({text})")


if __name__ == "__main__":
    unittest.main()

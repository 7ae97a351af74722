import math
import unittest
from fractions import Fraction

from rosenames.near import nearest
from rosenames.peoples import both_say, leads, unsaid
from rosenames.roses import Rose
from rosenames.turns import Turn
from rosenames.winds import winds
from samples import GREAT, WORDS, apart, own_names, part_of, roses, turn_of, wind_parts

FOUR = ("n", "e", "s", "w")
LETTERS = ("a", "b", "c", "d", "e", "f", "g", "h")
BEGINS = (None, Turn(1, 2), Turn(1, 7), Turn(1, 96), Turn(GREAT, GREAT * 7 + 1))


def pairs():
    """Two roses: begins that meet and such that don't, half-way between two winds, itself, one halving more."""
    some = [Rose(LETTERS[:corners], halvings, BEGINS[(corners + halvings) % len(BEGINS)])
            for corners in range(3, 9) for halvings in (0, 1, 2)]
    found = [(one, other) for one in some for other in some[::2]]
    for rose in roses(halvings=(0, 1, 3)):
        found.append((rose, rose))
        found.append((rose, Rose(rose.words[::-1], rose.halvings, rose.begin)))
        found.append((rose, Rose(rose.words, rose.halvings + 1, rose.begin)))
        for other in (WORDS[0], WORDS[1], WORDS[3]):
            begun = rose.begin.plus(Turn(1, 2 * len(rose)))
            found.append((rose, Rose(other, 1, begun)))
            found.append((Rose(other, 1, rose.begin.plus(Turn(3, len(rose)))), rose))
            found.append((rose, Rose(other, 2, rose.begin.plus(Turn(1, GREAT)))))
    deep = Rose(WORDS[5], 5)
    found += [(deep, Rose(WORDS[4], 5, Turn(1, 3))), (deep, Rose(WORDS[5], 5, Turn(1, 512))), (deep, deep)]
    return found


PAIRS = pairs()


class BothSayTest(unittest.TestCase):
    def check(self, one, other):
        told = both_say(one, other)
        self.assertIs(type(told), list)
        self.assertTrue(all(isinstance(turn, Turn) for turn in told))
        theirs = set(wind_parts(other))
        wanted = sorted(part for part in wind_parts(one) if part in theirs)
        self.assertEqual([part_of(turn) for turn in told], wanted)
        self.assertIn(len(told), (0, math.gcd(len(one), len(other))))
        self.assertEqual(both_say(other, one), told)
        return len(told)

    def test_against_all_pairs_of_winds(self):
        none = some = 0
        for one, other in PAIRS:
            many = self.check(one, other)
            none += many == 0
            some += many > 0
        self.assertGreater(none, 50)
        self.assertGreater(some, 50)

    def test_a_rose_with_itself_and_with_one_halving_more(self):
        for rose in roses():
            self.assertEqual(self.check(rose, rose), len(rose))
            if rose.halvings < 5:
                more = Rose(rose.words, rose.halvings + 1, rose.begin)
                self.assertEqual(self.check(rose, more), len(rose))
                self.assertEqual([part_of(turn) for turn in both_say(more, rose)], sorted(wind_parts(rose)))

    def test_half_way_between_two(self):
        for rose in roses(halvings=range(5)):
            begun = rose.begin.plus(Turn(1, 2 * len(rose)))
            self.assertEqual(self.check(rose, Rose(rose.words, rose.halvings, begun)), 0)
            self.assertEqual(self.check(rose, Rose(rose.words, rose.halvings + 1, begun)), len(rose))

    def test_a_new_list_each_time(self):
        one, other = Rose(FOUR, 1), Rose(("a", "b", "c"), 1)
        first = both_say(one=one, other=other)
        self.assertEqual(first, [Turn(0), Turn(1, 2)])
        first.append(None)
        self.assertEqual(both_say(one, other), [Turn(0), Turn(1, 2)])
        both_say(one, other).clear()
        self.assertEqual(both_say(one, other), [Turn(0), Turn(1, 2)])

    def test_by_parts_not_by_places(self):
        one, other = Rose(FOUR, 0, Turn(5, 8)), Rose(FOUR, 1, Turn(7, 8))
        self.assertEqual(both_say(one, other), [Turn(1, 8), Turn(3, 8), Turn(5, 8), Turn(7, 8)])


class LeadsTest(unittest.TestCase):
    def wanted(self, one, other):
        """What must be told, of all winds of the other rose one by one."""
        found = []
        theirs, names = wind_parts(other), own_names(other)
        for name, part in zip(own_names(one), wind_parts(one)):
            # Of two as near the one from which one goes on to it.
            place = min(range(len(other)), key=lambda at: (apart(theirs[at], part), (part - theirs[at]) % 1))
            far = apart(theirs[place], part)
            word = "same" if far == 0 else "on" if (part - theirs[place]) % 1 == far else "back"
            found.append((name, names[place], word, far))
        return found

    def test_against_all_winds_of_the_other_rose(self):
        words = {"same": 0, "on": 0, "back": 0}
        half_way = 0
        for one, other in PAIRS:
            if len(one) * len(other) > 12000:
                continue
            told = leads(one, other)
            self.assertIs(type(told), list)
            self.assertEqual(len(told), len(one))
            for row in told:
                self.assertIs(type(row), tuple)
                self.assertEqual([type(part) for part in row], [str, str, str, Turn])
                words[row[2]] += 1
                half_way += part_of(row[3]) == Fraction(1, 2 * len(other))
            self.assertEqual([(*row[:3], part_of(row[3])) for row in told], self.wanted(one, other))
        self.assertTrue(all(many > 300 for many in words.values()), words)
        self.assertGreater(half_way, 100)

    def test_as_nearest_tells(self):
        for one, other in PAIRS[::9]:
            for wind, (own, near, word, far) in zip(winds(one), leads(one, other)):
                self.assertEqual((own, near), (str(wind), str(nearest(other, wind.turn))))
                there = nearest(other, wind.turn).turn
                self.assertEqual(there.plus(far) if word != "back" else there.minus(far), wind.turn)

    def test_half_way_between_two(self):
        one = Rose(FOUR, 0, Turn(1, 8))
        self.assertEqual(leads(one, Rose(("a", "b", "c", "d"), 0)), [
            ("n", "a", "on", Turn(1, 8)), ("e", "b", "on", Turn(1, 8)), ("s", "c", "on", Turn(1, 8)),
            ("w", "d", "on", Turn(1, 8))])

    def test_example(self):
        one, other = Rose(FOUR, 0), Rose(("a", "b", "c"), 0)
        self.assertEqual(leads(one=one, other=other), [
            ("n", "a", "same", Turn(0)), ("e", "b", "back", Turn(1, 12)), ("s", "b", "on", Turn(1, 6)),
            ("w", "c", "on", Turn(1, 12))])

    def test_a_new_list_each_time(self):
        one, other = Rose(FOUR, 1), Rose(("a", "b", "c"), 1)
        ahead = list(leads(one, other))
        leads(one, other).clear()
        leads(one, other).append(None)
        self.assertEqual(leads(one, other), ahead)


class UnsaidTest(unittest.TestCase):
    def check(self, one, other):
        told = unsaid(one, other)
        self.assertIs(type(told), tuple)
        self.assertEqual([type(part) for part in told], [Turn, Turn])
        said = sorted(set(wind_parts(one)) | set(wind_parts(other)))
        ways = {part: (said[(at + 1) % len(said)] - part) % 1 for at, part in enumerate(said)}
        wide = max(ways.values())
        begin = min(part for part in ways if ways[part] == wide)
        self.assertEqual(told, (turn_of(begin), turn_of(wide)))
        self.assertEqual(unsaid(other, one), told)
        return list(ways.values()).count(wide) > 1, begin + wide > 1

    def test_against_all_turns_said(self):
        several = 0
        for one, other in PAIRS:
            several += self.check(one, other)[0]
        self.assertGreater(several, 50)

    def test_roses_that_are_alike(self):
        for rose in roses():
            least = min(wind_parts(rose))
            again = Rose(rose.words, rose.halvings, rose.begin)
            self.assertEqual(unsaid(rose, again), (turn_of(least), Turn(1, len(rose))))
            self.assertEqual(unsaid(one=rose, other=rose), (turn_of(least), Turn(1, len(rose))))

    def test_the_widest_over_the_full_turn(self):
        # Said are 1/9, 4/9, 7/9 and 11/90, 41/90, 71/90: the last way goes over 0.
        one = Rose(("a", "b", "c"), 0, Turn(1, 9))
        other = Rose(("a", "b", "c"), 0, Turn(1, 9).plus(Turn(1, 90)))
        self.assertEqual(unsaid(one, other), (Turn(11, 90), Turn(29, 90)))
        lone = Rose(FOUR, 0, Turn(1, 10))
        third = Rose(("a", "b", "c"), 0, Turn(1, 4))
        self.check(lone, third)
        over = [self.check(Rose(("a", "b", "c"), 0, Turn(at, 60)), Rose(FOUR, 0, Turn(1, 60)))[1] for at in range(20)]
        self.assertIn(True, over)

    def test_examples(self):
        self.assertEqual(unsaid(Rose(FOUR, 0), Rose(("a", "b", "c"), 0)), (Turn(0), Turn(1, 4)))
        self.assertEqual(unsaid(Rose(FOUR, 1), Rose(("a", "b", "c"), 1, Turn(1, 8))), (Turn(0), Turn(1, 8)))


if __name__ == "__main__":
    unittest.main()

import unittest
from itertools import product

from stairrooms.errors import NoHouse, NoPlace, TooGreat
from stairrooms.words import first_word, first_words, reads
from tests.helper import (
    HOUSES, LONE, MINGLED, NO_HOUSES, PLAIN, SIGNS, Case, Dice, full_house, lengths_from, places_behind, rings_house,
    thrown_house, thrown_houses,
)

FAR = 10 ** 59
# as many b as a, at least none
PAIRS = (2, ((0, "up", 0, "a"), (0, "down", 1, "b"), (1, "down", 1, "b"), (0, "zero", 1, "z")))
# well set brackets, a to begin and b to end one
BRACKETS = (1, ((0, "up", 0, "a"), (0, "down", 0, "b")))
STARS = (1, ((0, "stay", 0, "b"), (0, "stay", 0, "a")))
ASKS = [
    ("reads", lambda house, p, q: reads(house, p, q, "")),
    ("first_word", first_word),
    ("first_words", lambda house, p, q: first_words(house, p, q, 3, 3)),
]


def is_read(house, p, q, text):
    places = {(p, 0)}
    for sign in text:
        places = places_behind(house, places, sign)
    return (q, 0) in places


def all_words(house, p, q, length, signs):
    """All words to a length by trying each text of these signs."""
    texts = ["".join(row) for size in range(length + 1) for row in product(signs, repeat=size)]
    return [text for text in texts if is_read(house, p, q, text)]


def sought_first(house, p, q):
    """The first word by the sets of places of all texts, length by length; of one set the first text alone."""
    if (q, 0) not in lengths_from(house[1], (p, 0), 0, house[0] ** 2):
        return None
    signs = sorted({way[3] for way in house[1]})
    texts = {frozenset({(p, 0)}): ""}
    while True:
        words = [text for places, text in texts.items() if (q, 0) in places]
        if words:
            return min(words)
        longer = {}
        for places, text in sorted(texts.items(), key=lambda pair: pair[1]):
            for sign in signs:
                longer.setdefault(frozenset(places_behind(house, places, sign)), text + sign)
        longer.pop(frozenset(), None)
        texts = longer


class Reads(Case):
    def test_the_empty_word(self):
        for house in HOUSES:
            for p in range(house[0]):
                for q in range(house[0]):
                    self.assertIs(reads(house, p, q, ""), p == q)

    def test_some(self):
        for count in range(12):
            self.assertIs(reads(PAIRS, 0, 1, "a" * count + "b" * count), count > 0)
            self.assertIs(reads(PAIRS, 0, 1, "a" * count + "b" * (count + 1)), False)
            self.assertIs(reads(PAIRS, 0, 1, "a" * (count + 1) + "b" * count), False)
        self.assertIs(reads(PAIRS, 0, 1, "z"), True)
        self.assertIs(reads(PAIRS, 0, 1, "abz"), False)
        self.assertIs(reads(PAIRS, 0, 1, "az"), False)
        self.assertIs(reads(BRACKETS, 0, 0, "aababb"), True)
        self.assertIs(reads(BRACKETS, 0, 0, "abba"), False)
        self.assertIs(reads(BRACKETS, 0, 0, "aab"), False)

    def test_all_short_texts(self):
        for house in [PAIRS, BRACKETS, STARS] + thrown_houses(151, 40):
            p, q = 0, house[0] - 1
            for size in range(6):
                for row in product("abc", repeat=size):
                    text = "".join(row)
                    self.assertIs(reads(house, p, q, text), is_read(house, p, q, text), (house, text))

    def test_thrown_long_texts(self):
        dice = Dice(152)
        seen = {True: 0, False: 0}
        for house in [BRACKETS, full_house()] + [thrown_house(dice, 3, 14) for _ in range(60)]:
            for _ in range(4):
                text = "".join(dice.of("abc") for _ in range(dice.below(25)))
                p, q = dice.below(house[0]), dice.below(house[0])
                answered = is_read(house, p, q, text)
                seen[answered] += 1
                self.assertIs(reads(house, p, q, text), answered)
        self.assertGreater(min(seen.values()), 20)

    def test_numbers_far_above_zero_on_the_way(self):
        for count in (50, 99, 100):
            self.assertIs(reads(BRACKETS, 0, 0, "a" * count + "b" * count), True)
            self.assertIs(reads(BRACKETS, 0, 0, "a" * (count - 1) + "b" * count), False)
            self.assertIs(reads(PAIRS, 0, 1, "a" * count + "b" * count), True)

    def test_texts_of_two_hundred_signs_and_one_more(self):
        self.assertIs(reads(STARS, 0, 0, "ab" * 100), True)
        self.assertIs(reads(STARS, 0, 0, "c" * 200), False)
        self.assertIs(reads(STARS, 0, 0, "a" * 199 + "-"), False)
        for text in ("a" * 201, "c" * 201, " " * 201, "A" * 4000):
            self.refused(TooGreat, reads, STARS, 0, 0, text)

    def test_other_signs(self):
        for number in range(ord(" "), ord("~") + 1):
            sign = chr(number)
            house = (1, tuple((0, "stay", 0, letter) for letter in SIGNS))
            self.assertIs(reads(house, 0, 0, sign), sign in SIGNS)
            self.assertIs(reads(house, 0, 0, "ab" + sign), sign in SIGNS)
            self.assertIs(reads(house, 0, 0, sign + "z"), sign in SIGNS)
            if sign not in "ab":
                self.assertIs(reads(STARS, 0, 0, "a" + sign + "b"), False)

    def test_each_deed(self):
        def lone(deed):
            return (2, ((0, deed, 1, "x"),))
        self.assertIs(reads(lone("stay"), 0, 1, "x"), True)
        self.assertIs(reads(lone("zero"), 0, 1, "x"), True)
        self.assertIs(reads(lone("up"), 0, 1, "x"), False)
        self.assertIs(reads(lone("down"), 0, 1, "x"), False)


class FirstWord(Case):
    def agrees(self, house, p, q):
        with self.subTest(house=house, p=p, q=q):
            self.assertEqual(first_word(house, p, q), sought_first(house, p, q))

    def test_some(self):
        self.assertEqual(first_word(LONE, 0, 0), "")
        self.assertIsNone(first_word(PLAIN, 0, 1))
        self.assertEqual(first_word(PLAIN, 1, 0), "b")
        self.assertEqual(first_word(PAIRS, 0, 1), "z")
        self.assertEqual(first_word((2, PAIRS[1][:3]), 0, 1), "ab")
        self.assertIsNone(first_word((2, PAIRS[1][:3]), 1, 0))
        self.assertEqual(first_word(BRACKETS, 0, 0), "")

    def test_of_two_words_of_one_length_the_first(self):
        ways = ((0, "stay", 1, "a"), (0, "stay", 2, "b"), (1, "stay", 3, "z"), (2, "stay", 3, "a"))
        self.assertEqual(first_word((4, ways), 0, 3), "az")
        self.assertEqual(first_word((4, tuple(reversed(ways))), 0, 3), "az")
        self.assertEqual(first_word((4, ways[1:]), 0, 3), "ba")
        # the same first sign leads to two rooms, and the better one is not the first
        ways = ((0, "stay", 1, "a"), (0, "stay", 2, "a"), (1, "stay", 3, "c"), (2, "stay", 3, "b"))
        self.assertEqual(first_word((4, ways), 0, 3), "ab")
        # a first sign that leads nowhere is not taken
        ways = ((0, "stay", 1, "a"), (0, "stay", 2, "b"), (2, "stay", 3, "c"))
        self.assertEqual(first_word((4, ways), 0, 3), "bc")

    def test_a_shorter_word_goes_ahead_of_a_lesser_one(self):
        ways = ((0, "stay", 1, "a"), (1, "stay", 2, "a"), (0, "stay", 2, "z"))
        self.assertEqual(first_word((3, ways), 0, 2), "z")

    def test_against_sets_of_places(self):
        dice = Dice(161)
        for house in HOUSES[:7] + [PAIRS, BRACKETS, STARS] + thrown_houses(162, 120):
            for p in range(house[0]):
                for q in range(house[0]):
                    self.agrees(house, p, q)
        for _ in range(40):
            house = thrown_house(dice, 8, 16)
            self.agrees(house, 0, dice.below(8))

    def test_words_that_need_numbers_far_above_zero(self):
        for house in (rings_house(2, 3, 1), rings_house(3, 4, 2), rings_house(5, 6, 1), rings_house(6, 5, 3)):
            for q in range(house[0]):
                self.agrees(house, 0, q)
        self.assertEqual(first_word(rings_house(5, 6, 1), 0, 11), "u" * 25 + "s" + "d" * 25 + "z")
        self.assertEqual(first_word(rings_house(5, 6, 0), 0, 11), "sz")
        self.assertEqual(len(first_word(rings_house(6, 5, 1), 0, 11)), 2 * 6 * 1 + 2)


class FirstWords(Case):
    def test_some(self):
        self.assertEqual(first_words(LONE, 0, 0, 40, 200), [""])
        self.assertEqual(first_words(PLAIN, 0, 1, 40, 200), [])
        self.assertEqual(first_words(PAIRS, 0, 1, 6, 200), ["z", "ab", "aabb", "aaabbb"])
        self.assertEqual(
            first_words(BRACKETS, 0, 0, 6, 200),
            ["", "ab", "aabb", "abab", "aaabbb", "aababb", "aabbab", "abaabb", "ababab"],
        )
        self.assertEqual(first_words(STARS, 0, 0, 2, 200), ["", "a", "b", "aa", "ab", "ba", "bb"])
        self.assertEqual(first_words(STARS, 0, 0, 2, 5), ["", "a", "b", "aa", "ab"])

    def test_all_words_to_a_length(self):
        for house in [PAIRS, BRACKETS, STARS] + thrown_houses(171, 80):
            for p, q in {(0, 0), (0, house[0] - 1), (house[0] - 1, 0)}:
                words = all_words(house, p, q, 6, "abcz" if house == PAIRS else "abc")
                for length in range(7):
                    short = [word for word in words if len(word) <= length]
                    for many in (0, 1, 2, 3, 7, 50, 200):
                        told = first_words(house, p, q, length, many)
                        self.assertIsInstance(told, list)
                        self.assertEqual(told, short[:many], (house, p, q, length, many))

    def test_lengths_to_forty(self):
        self.assertEqual(first_words(PAIRS, 0, 1, 40, 200), ["z"] + ["a" * n + "b" * n for n in range(1, 21)])
        self.assertEqual(first_words(PAIRS, 0, 1, 39, 200), ["z"] + ["a" * n + "b" * n for n in range(1, 20)])
        lone = (1, ((0, "stay", 0, "q"),))
        self.assertEqual(first_words(lone, 0, 0, 40, 200), ["q" * n for n in range(41)])
        self.assertEqual(first_words(lone, 0, 0, 40, 41), ["q" * n for n in range(41)])
        self.assertEqual(first_words(lone, 0, 0, 40, 40), ["q" * n for n in range(40)])

    def test_many_long_words(self):
        # of each odd length twice as many as of the one before
        ways = ((0, "up", 0, "u"), (0, "stay", 1, "x"), (0, "stay", 1, "y"), (1, "down", 1, "d"), (1, "down", 1, "e"))
        told = first_words((2, ways), 0, 1, 40, 200)
        self.assertEqual(len(told), 200)
        self.assertEqual(told, sorted(told, key=lambda word: (len(word), word)))
        self.assertEqual(told[:6], ["x", "y", "uxd", "uxe", "uyd", "uye"])
        self.assertEqual(len(set(told)), 200)
        for word in told:
            self.assertTrue(is_read((2, ways), 0, 1, word))
        count, length, sizes = 0, 1, []
        while count < 200:
            size = min(2 ** (1 + length // 2), 200 - count)
            sizes += [length] * size
            count, length = count + size, length + 2
        self.assertEqual([len(word) for word in told], sizes)

    def test_two_hundred_of_many(self):
        letters = (1, tuple((0, "stay", 0, sign) for sign in SIGNS))
        pairs = [""] + list(SIGNS) + [one + other for one in SIGNS for other in SIGNS]
        self.assertEqual(first_words(letters, 0, 0, 40, 200), pairs[:200])
        self.assertEqual(first_words(letters, 0, 0, 1, 200), pairs[:27])

    def test_length_zero_and_none_asked(self):
        for house in HOUSES:
            self.assertEqual(first_words(house, 0, 0, 0, 200), [""])
            self.assertEqual(first_words(house, 0, 0, 0, 1), [""])
            self.assertEqual(first_words(house, 0, 0, 0, 0), [])
            self.assertEqual(first_words(house, 0, 0, 40, 0), [])
            self.assertEqual(first_words(house, 0, house[0] - 1, 0, 9), [""] if house[0] == 1 else [])

    def test_lengths_and_how_many_beyond_the_bounds(self):
        for house in (LONE, STARS, full_house()):
            first_words(house, 0, 0, 40, 200)
            for wrong in (41, -1, FAR, -FAR):
                for many in (0, 1, 200, 201, -1):
                    self.refused(TooGreat, first_words, house, 0, 0, wrong, many)
            for wrong in (201, -1, FAR, -FAR):
                for length in (0, 1, 40, 41, -1):
                    self.refused(TooGreat, first_words, house, 0, 0, length, wrong)

    def test_great_houses_against_the_first_word(self):
        dice = Dice(172)
        for _ in range(25):
            house = thrown_house(dice, 12, 30)
            q = dice.below(12)
            first, told = first_word(house, 0, q), first_words(house, 0, q, 40, 30)
            self.assertEqual(told, sorted(set(told), key=lambda word: (len(word), word)))
            self.assertEqual(told[:1], [first] if first is not None and len(first) <= 40 else [])
            for word in told:
                self.assertTrue(is_read(house, 0, q, word))
                self.assertIs(reads(house, 0, q, word), True)

    def test_a_told_list_is_the_askers_own(self):
        told = first_words(STARS, 0, 0, 1, 9)
        told.append("more")
        told[0] = None
        self.assertEqual(first_words(STARS, 0, 0, 1, 9), ["", "a", "b"])


class Refusals(Case):
    def test_what_is_no_house(self):
        for thing in NO_HOUSES:
            for name, ask in ASKS:
                self.refused(NoHouse, ask, thing, 0, 0)
                self.refused(NoHouse, ask, thing, 12, -1)
            self.refused(NoHouse, reads, thing, 0, 0, "a" * 201)
            self.refused(NoHouse, first_words, thing, 0, 99, 41, 201)

    def test_rooms_that_are_none(self):
        for name, ask in ASKS:
            for house in (LONE, PLAIN, MINGLED, full_house()):
                ask(house, house[0] - 1, 0)
                ask(house, 0, house[0] - 1)
                for room in (-1, house[0], house[0] + 1, FAR, -FAR):
                    with self.subTest(name=name, room=room):
                        self.refused(NoPlace, ask, house, room, 0)
                        self.refused(NoPlace, ask, house, 0, room)
                        self.refused(NoPlace, ask, house, room, room)

    def test_no_place_goes_ahead_of_too_great(self):
        for p, q in ((1, 0), (0, 1), (-1, 0), (0, -1)):
            self.refused(NoPlace, reads, LONE, p, q, "a" * 201)
            self.refused(NoPlace, first_words, LONE, p, q, 41, 1)
            self.refused(NoPlace, first_words, LONE, p, q, 1, 201)
            self.refused(NoPlace, first_words, LONE, p, q, -1, -1)

    def test_what_was_refused_may_be_asked_again(self):
        for _ in range(2):
            self.refused(TooGreat, reads, STARS, 0, 0, "a" * 201)
            self.assertIs(reads(STARS, 0, 0, "a" * 200), True)
            self.refused(TooGreat, first_words, STARS, 0, 0, 41, 1)
            self.assertEqual(first_words(STARS, 0, 0, 40, 1), [""])


if __name__ == "__main__":
    unittest.main()

import unittest

from stairrooms.backward import backward
from stairrooms.desk import Desk
from stairrooms.ends import fate
from stairrooms.errors import NoDeed, NoLine, NoPlace, NoWay, TooGreat
from stairrooms.forward import forward
from stairrooms.houses import turned_about
from stairrooms.texts import shown_house, shown_stair
from stairrooms.tops import greatest
from stairrooms.walks import shortest
from stairrooms.words import first_word
from tests.helper import (
    DEEDS, HOUSES, MINGLED, SIGNS, Case, Dice, full_house, late_ring, rings_house, thrown_houses,
)


def desk_with(house):
    """A desk that was told of a house line by line."""
    desk = Desk()
    desk.tell(f"rooms {house[0]}")
    for room, deed, other, sign in house[1]:
        desk.tell(f"way {room} {deed} {other} {sign}")
    return desk


class DeskCase(Case):
    def told(self, desk, lines):
        for line, answered in lines:
            with self.subTest(line):
                self.assertEqual(desk.tell(line), answered)

    def refused_line(self, kind, desk, line):
        """Refused with just this class, twice, and all is as it was."""
        before = desk.tell("show")
        for _ in range(2):
            with self.subTest(line):
                self.refused(kind, desk.tell, line)
        self.assertEqual(desk.tell("show"), before)


class Lines(DeskCase):
    # of each line one that is known, at a house of three rooms with the way 0 up 1 a
    GOOD = [
        "rooms 3", "way 0 stay 2 z", "close 0 up 1 a", "turn", "undo", "redo", "show", "reach 0 0 1 1", "forward 0 0 1",
        "backward 1 1 0", "most 0 0", "fate 0 0", "word 0 0",
    ]

    def desk(self):
        desk = Desk()
        for line in ("rooms 3", "way 0 up 1 a", "turn", "undo"):
            desk.tell(line)
        return desk

    def test_each_known_line_is_answered_with_a_text(self):
        for line in self.GOOD:
            with self.subTest(line):
                self.assertIsInstance(self.desk().tell(line), str)

    def test_blanks_at_an_end_or_doubled(self):
        desk = self.desk()
        for line in self.GOOD:
            self.refused_line(NoLine, desk, " " + line)
            self.refused_line(NoLine, desk, line + " ")
            self.refused_line(NoLine, desk, "  " + line)
            for at in [at for at, sign in enumerate(line) if sign == " "]:
                self.refused_line(NoLine, desk, line[:at] + " " + line[at:])
                self.refused_line(NoLine, desk, line[:at] + line[at + 1:])
                for sign in (",", ":", "_"):
                    self.refused_line(NoLine, desk, line[:at] + sign + line[at + 1:])

    def test_a_word_more_or_less(self):
        desk = self.desk()
        for line in self.GOOD:
            words = line.split(" ")
            for more in ("0", "1", "a", "up", "show", "x"):
                self.refused_line(NoLine, desk, line + " " + more)
                self.refused_line(NoLine, desk, more + " " + line)
            for at in range(len(words)):
                if len(words) > 1:
                    self.refused_line(NoLine, desk, " ".join(words[:at] + words[at + 1:]))

    def test_capitals(self):
        desk = self.desk()
        for line in self.GOOD:
            self.refused_line(NoLine, desk, line.upper())
            self.refused_line(NoLine, desk, line[0].upper() + line[1:])
        for line in ("way 0 Stay 2 z", "way 0 STAY 2 z", "way 0 stay 2 Z", "close 0 Up 1 a", "close 0 up 1 A"):
            self.refused_line(NoLine, desk, line)

    def test_numbers_that_are_not_written_as_such(self):
        desk = self.desk()
        wrongs = ["00", "01", "-1", "+1", "1.0", "a", "", "1234567", "1000000", "0000000", "1_0", "x1", "1x", "up", "one"]
        for line in self.GOOD:
            words = line.split(" ")
            for at, word in enumerate(words):
                if word.isdigit():
                    for wrong in wrongs:
                        self.refused_line(NoLine, desk, " ".join(words[:at] + [wrong] + words[at + 1:]))

    def test_numbers_of_six_figures_are_numbers(self):
        desk = self.desk()
        for line in (
            "way 999999 up 0 a", "way 0 up 999999 a", "reach 999999 0 0 0", "reach 0 0 999999 0", "forward 999999 0 0",
            "forward 0 0 999999", "backward 999999 0 0", "backward 0 0 999999", "most 999999 0", "fate 999999 0",
            "word 999999 0", "word 0 999999",
        ):
            self.refused_line(NoPlace, desk, line)
        for line in (
            "reach 0 999999 0 0", "reach 0 0 0 999999", "forward 0 999999 0", "backward 0 999999 0", "most 0 999999",
            "fate 0 999999",
        ):
            self.refused_line(TooGreat, desk, line)
        self.refused_line(NoWay, desk, "close 999999 up 0 a")
        self.refused_line(NoWay, desk, "close 0 up 999999 a")
        self.refused_line(NoLine, desk, "rooms 999999")

    def test_deeds_and_signs_that_are_none(self):
        desk = self.desk()
        for name in ("way", "close"):
            for deed in ("", "u", "ups", "left", "zeros", "0", "a"):
                self.refused_line(NoLine, desk, f"{name} 0 {deed} 1 a")
            for sign in ("", "aa", "ab", "A", "0", "1", "-", "~", "`", "{", "/"):
                self.refused_line(NoLine, desk, f"{name} 0 up 1 {sign}")
            for number in range(ord("!"), ord("~") + 1):
                if chr(number) not in SIGNS:
                    self.refused_line(NoLine, desk, f"{name} 0 up 1 {chr(number)}")

    def test_how_many_rooms(self):
        for many in range(1, 13):
            self.assertEqual(Desk().tell(f"rooms {many}"), f"{many}:")
        desk = self.desk()
        for many in ("0", "13", "14", "100", "999999", "012", "-1"):
            self.refused_line(NoLine, desk, f"rooms {many}")

    def test_other_lines(self):
        desk = self.desk()
        for line in (
            "", " ", "  ", "a", "0", "room 3", "ways", "way", "close", "rooms", "shows", "show house", "help", "exit", "3:",
            "3: 0 up 1 a", "up 0 1 a", "way 0 1 up a", "way up 0 1 a", "way 0 up a 1", "undo 1", "redo 1", "turn 1", "reach",
            "forward 0 0", "forward 0 0 1 1", "word 0", "word /", "most 0", "fate 0", "rooms three", "~", "show~", "/", "none",
        ):
            self.refused_line(NoLine, desk, line)

    def test_a_line_that_is_none_goes_ahead_of_all_else(self):
        desk = self.desk()
        for line in ("way 9 up 9 aa", "reach 9 1001 9", "forward 9 1001 9 9", "close 9 up 9 A", "undo undo", "word 9 9 9"):
            self.refused_line(NoLine, desk, line)
        self.refused_line(NoLine, Desk(), "undo ")
        self.refused_line(NoDeed, Desk(), "undo")


class Deeds(DeskCase):
    def test_the_beginning(self):
        self.assertEqual(Desk().tell("show"), "1:")

    def test_rooms(self):
        desk = Desk()
        self.told(desk, [
            ("rooms 2", "2:"), ("way 0 up 1 a", "2: 0 up 1 a"), ("rooms 12", "12:"), ("show", "12:"), ("rooms 1", "1:"),
        ])

    def test_way_and_close(self):
        self.told(Desk(), [
            ("rooms 3", "3:"),
            ("way 0 up 1 a", "3: 0 up 1 a"),
            ("way 2 zero 0 z", "3: 0 up 1 a, 2 zero 0 z"),
            ("way 1 down 1 m", "3: 0 up 1 a, 2 zero 0 z, 1 down 1 m"),
            ("close 2 zero 0 z", "3: 0 up 1 a, 1 down 1 m"),
            ("way 2 zero 0 z", "3: 0 up 1 a, 1 down 1 m, 2 zero 0 z"),
            ("close 0 up 1 a", "3: 1 down 1 m, 2 zero 0 z"),
            ("close 2 zero 0 z", "3: 1 down 1 m"),
            ("close 1 down 1 m", "3:"),
            ("show", "3:"),
        ])

    def test_each_deed_and_each_sign(self):
        desk = Desk()
        for sign in SIGNS:
            deed = DEEDS[SIGNS.index(sign) % 4]
            self.assertEqual(desk.tell(f"way 0 {deed} 0 {sign}"), f"1: 0 {deed} 0 {sign}")
            self.assertEqual(desk.tell(f"close 0 {deed} 0 {sign}"), "1:")

    def test_turn(self):
        for house in HOUSES:
            desk = desk_with(house)
            self.assertEqual(desk.tell("show"), shown_house(house))
            self.assertEqual(desk.tell("turn"), shown_house(turned_about(house)))
            self.assertEqual(desk.tell("turn"), shown_house(house))

    def test_refusals_of_way_in_their_order(self):
        desk = desk_with(full_house(99))
        self.refused_line(NoPlace, desk, "way 12 up 0 a")
        self.refused_line(NoPlace, desk, "way 0 up 12 a")
        room, deed, other, sign = full_house(99)[1][50]
        self.refused_line(NoWay, desk, f"way {room} {deed} {other} {sign}")
        desk.tell("way 0 up 0 a")
        self.assertEqual(desk.tell("show").count(",") + 1, 100)
        # a hundred ways are there: NoPlace, then NoWay, then TooGreat
        self.refused_line(TooGreat, desk, "way 0 up 0 b")
        self.refused_line(NoWay, desk, "way 0 up 0 a")
        self.refused_line(NoWay, desk, f"way {room} {deed} {other} {sign}")
        self.refused_line(NoPlace, desk, "way 12 up 0 a")
        self.refused_line(NoPlace, desk, "way 0 up 13 a")
        desk.tell("close 0 up 0 a")
        desk.tell("way 0 up 0 b")
        self.refused_line(TooGreat, desk, "way 0 up 0 a")

    def test_refusals_of_close(self):
        desk = desk_with(MINGLED)
        for line in (
            "close 0 up 0 b", "close 0 up 1 a", "close 0 down 0 a", "close 1 up 0 a", "close 3 up 0 a", "close 0 up 3 a",
            "close 12 zero 12 z",
        ):
            self.refused_line(NoWay, desk, line)
        self.refused_line(NoWay, Desk(), "close 0 up 0 a")
        desk.tell("close 0 up 0 a")
        self.refused_line(NoWay, desk, "close 0 up 0 a")


class UndoRedo(DeskCase):
    def test_nothing_to_undo_or_redo(self):
        desk = Desk()
        for _ in range(2):
            self.refused_line(NoDeed, desk, "undo")
            self.refused_line(NoDeed, desk, "redo")
        desk.tell("rooms 2")
        self.refused_line(NoDeed, desk, "redo")
        desk.tell("undo")
        self.refused_line(NoDeed, desk, "undo")
        desk.tell("redo")
        self.refused_line(NoDeed, desk, "redo")

    def test_several_deeds(self):
        self.told(Desk(), [
            ("rooms 2", "2:"), ("way 0 up 1 a", "2: 0 up 1 a"), ("turn", "2: 1 down 0 a"),
            ("way 0 stay 0 b", "2: 1 down 0 a, 0 stay 0 b"), ("close 1 down 0 a", "2: 0 stay 0 b"),
            ("undo", "2: 1 down 0 a, 0 stay 0 b"), ("undo", "2: 1 down 0 a"), ("undo", "2: 0 up 1 a"),
            ("redo", "2: 1 down 0 a"), ("undo", "2: 0 up 1 a"), ("undo", "2:"), ("undo", "1:"),
            ("redo", "2:"), ("redo", "2: 0 up 1 a"), ("redo", "2: 1 down 0 a"),
            ("redo", "2: 1 down 0 a, 0 stay 0 b"), ("redo", "2: 0 stay 0 b"), ("undo", "2: 1 down 0 a, 0 stay 0 b"),
        ])

    def test_a_deed_between_makes_the_undone_ones_be_over(self):
        for deed, answered in (("rooms 3", "3:"), ("way 1 zero 1 z", "2: 1 zero 1 z"), ("turn", "2:"), ("rooms 2", "2:")):
            desk = Desk()
            for line in ("rooms 2", "way 0 up 1 a", "turn", "undo", "undo"):
                desk.tell(line)
            self.assertEqual(desk.tell(deed), answered)
            self.refused_line(NoDeed, desk, "redo")
            self.told(desk, [("undo", "2:"), ("undo", "1:"), ("redo", "2:"), ("redo", answered)])
            self.refused_line(NoDeed, desk, "redo")

    def test_a_deed_that_leaves_the_house_as_it_was_is_a_deed(self):
        desk = Desk()
        self.told(desk, [("rooms 1", "1:"), ("turn", "1:"), ("undo", "1:"), ("undo", "1:")])
        self.refused_line(NoDeed, desk, "undo")
        self.told(desk, [("redo", "1:"), ("redo", "1:")])
        self.refused_line(NoDeed, desk, "redo")
        desk = desk_with((2, ((0, "up", 1, "a"),)))
        desk.tell("undo")
        desk.tell("turn")
        self.refused_line(NoDeed, desk, "redo")
        self.assertEqual(desk.tell("show"), "2:")

    def test_asks_and_refused_lines_leave_the_undone_ones(self):
        desk = desk_with((2, ((0, "up", 1, "a"), (1, "stay", 1, "b"))))
        desk.tell("undo")
        desk.tell("undo")
        for line in ("show", "reach 0 0 1 0", "forward 0 0 1", "backward 0 0 1", "most 0 0", "fate 0 0", "word 0 0"):
            desk.tell(line)
        for kind, line in (
            (NoLine, "nothing"), (NoLine, "rooms 0"), (NoPlace, "way 2 up 0 a"), (NoWay, "close 0 up 1 a"),
            (NoPlace, "reach 2 0 0 0"), (TooGreat, "most 0 1001"),
        ):
            self.refused_line(kind, desk, line)
        self.told(desk, [("redo", "2: 0 up 1 a"), ("redo", "2: 0 up 1 a, 1 stay 1 b"), ("undo", "2: 0 up 1 a")])

    def test_a_refused_deed_is_none(self):
        desk = Desk()
        desk.tell("way 0 up 0 a")
        self.refused_line(NoWay, desk, "way 0 up 0 a")
        self.refused_line(NoPlace, desk, "way 0 up 1 a")
        self.refused_line(NoWay, desk, "close 0 up 0 b")
        self.assertEqual(desk.tell("undo"), "1:")
        self.refused_line(NoDeed, desk, "undo")
        self.refused_line(NoWay, desk, "close 0 up 0 a")
        self.assertEqual(desk.tell("redo"), "1: 0 up 0 a")

    def test_thrown_lines_against_a_list_of_houses(self):
        dice = Dice(191)
        for _ in range(30):
            desk, houses, at = Desk(), ["1:"], 0
            for _ in range(60):
                line = dice.of(["undo", "undo", "redo", "turn", "rooms 2", "way", "way", "way", "close"])
                if line in ("way", "close"):
                    line += f" {dice.below(2)} {dice.of(DEEDS)} {dice.below(2)} {dice.of('ab')}"
                try:
                    told = desk.tell(line)
                except (NoDeed, NoWay, NoPlace) as refusal:
                    told = type(refusal)
                if line == "undo":
                    self.assertEqual(told, houses[at - 1] if at > 0 else NoDeed)
                    at = max(0, at - 1)
                elif line == "redo":
                    self.assertEqual(told, houses[at + 1] if at + 1 < len(houses) else NoDeed)
                    at = min(len(houses) - 1, at + 1)
                elif isinstance(told, str):
                    at += 1
                    houses[at:] = [told]
                self.assertEqual(desk.tell("show"), houses[at])

    def test_two_desks_beside_one_another(self):
        one, other = Desk(), Desk()
        one.tell("rooms 2")
        one.tell("way 0 up 1 a")
        self.assertEqual(other.tell("show"), "1:")
        self.refused_line(NoDeed, other, "undo")
        other.tell("rooms 5")
        one.tell("undo")
        self.refused_line(NoDeed, other, "redo")
        self.assertEqual((one.tell("show"), other.tell("show")), ("2:", "5:"))
        self.assertEqual(one.tell("redo"), "2: 0 up 1 a")
        self.assertEqual(Desk().tell("show"), "1:")


class Asks(DeskCase):
    def test_some(self):
        desk = desk_with((3, ((0, "up", 0, "a"), (0, "stay", 1, "b"), (1, "down", 1, "c"), (1, "zero", 2, "d"))))
        self.told(desk, [
            ("show", "3: 0 up 0 a, 0 stay 1 b, 1 down 1 c, 1 zero 2 d"),
            ("reach 0 1 2 0", "3"), ("reach 0 0 0 0", "0"), ("reach 2 0 0 0", "never"), ("reach 0 1000 2 0", "1002"),
            ("forward 0 4 0", "4 1 : : 4"), ("forward 0 4 1", "0 1 : : 0"), ("forward 2 3 2", "4 1 : 3 :"),
            ("forward 2 3 0", "0 1 : :"), ("backward 2 0 0", "0 1 : : 0"), ("backward 2 3 1", "0 1 : :"),
            ("backward 0 2 0", "3 1 : 0 1 2 :"), ("most 0 5", "unbounded"), ("most 1 5", "5"), ("most 2 0", "0"),
            ("fate 0 0", "endless"), ("fate 1 5", "6"), ("fate 2 9", "0"), ("word 0 2", "/bd"), ("word 0 0", "/"),
            ("word 2 0", "none"), ("show", "3: 0 up 0 a, 0 stay 1 b, 1 down 1 c, 1 zero 2 d"),
        ])

    def test_each_ask_against_the_function_that_it_asks(self):
        dice = Dice(192)
        seen = set()
        for house in HOUSES + [late_ring(5), rings_house(3, 4, 2)] + thrown_houses(193, 60):
            desk = desk_with(house)
            for _ in range(4):
                r, s, x, y = dice.below(house[0]), dice.below(house[0]), dice.below(12), dice.below(12)
                walk = shortest(house, (r, x), (s, y))
                most, end, word = greatest(house, (r, x)), fate(house, (r, x)), first_word(house, r, s)
                answers = [
                    (f"reach {r} {x} {s} {y}", "never" if walk is None else str(len(walk))),
                    (f"forward {r} {x} {s}", shown_stair(forward(house, (r, x))[s])),
                    (f"backward {s} {y} {r}", shown_stair(backward(house, (s, y))[r])),
                    (f"most {r} {x}", str(most[1]) if most[0] == "most" else "unbounded"),
                    (f"fate {r} {x}", str(end[1]) if end[0] == "ends" else "endless"),
                    (f"word {r} {s}", "none" if word is None else "/" + word),
                    ("show", shown_house(house)),
                ]
                seen.update(answered for _, answered in answers)
                self.told(desk, answers)
        self.assertLessEqual({"never", "unbounded", "endless", "none", "/"}, seen)

    def test_the_rooms_of_forward_and_backward_are_not_exchanged(self):
        desk = desk_with((3, ((0, "up", 1, "a"), (1, "up", 2, "b"))))
        self.told(desk, [
            ("forward 0 2 1", "4 1 : 3 :"), ("forward 0 2 2", "5 1 : 4 :"), ("forward 1 2 0", "0 1 : :"),
            ("backward 1 3 0", "3 1 : 2 :"), ("backward 2 4 0", "3 1 : 2 :"), ("backward 0 2 1", "0 1 : :"),
        ])

    def test_numbers_of_a_thousand_and_one_more(self):
        desk = desk_with((2, ((0, "up", 1, "a"),)))
        for line in ("reach 0 {} 0 0", "reach 0 0 0 {}", "forward 0 {} 1", "backward 0 {} 1", "most 0 {}", "fate 0 {}"):
            self.assertIsInstance(desk.tell(line.format(1000)), str)
            self.refused_line(TooGreat, desk, line.format(1001))

    def test_no_place_ahead_of_too_great_for_each_of_the_rooms(self):
        desk = desk_with((2, ((0, "up", 1, "a"),)))
        for number in ("0", "1000", "1001", "999999"):
            for name in ("forward", "backward"):
                self.refused_line(NoPlace, desk, f"{name} 2 {number} 0")
                self.refused_line(NoPlace, desk, f"{name} 0 {number} 2")
                self.refused_line(NoPlace, desk, f"{name} 2 {number} 2")
            self.refused_line(NoPlace, desk, f"reach 2 {number} 0 1001")
            self.refused_line(NoPlace, desk, f"reach 0 1001 2 {number}")
            self.refused_line(NoPlace, desk, f"most 2 {number}")
            self.refused_line(NoPlace, desk, f"fate 2 {number}")
        for name in ("forward", "backward"):
            self.refused_line(TooGreat, desk, f"{name} 0 1001 1")
            self.refused_line(TooGreat, desk, f"{name} 1 1001 1")

    def test_words_of_rooms_that_are_none(self):
        desk = desk_with((2, ()))
        self.refused_line(NoPlace, desk, "word 2 0")
        self.refused_line(NoPlace, desk, "word 0 2")
        self.told(desk, [("word 0 1", "none"), ("word 1 1", "/")])

    def test_asks_change_nothing(self):
        desk = desk_with(MINGLED)
        for line in ("show", "reach 0 0 1 1", "forward 0 0 1", "backward 1 1 0", "most 0 0", "fate 0 0", "word 0 0"):
            first = desk.tell(line)
            self.assertEqual(desk.tell(line), first)
            self.assertEqual(desk.tell("show"), shown_house(MINGLED))
        desk.tell("undo")
        self.assertEqual(desk.tell("show"), shown_house((3, MINGLED[1][:-1])))


if __name__ == "__main__":
    unittest.main()

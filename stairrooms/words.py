"""The words that walks write from a room at 0 to a room at 0.

Within the program many places at once are a list of whole numbers, one for each room:
the bit x of a room's one tells whether the place with the number x is among them. So one
way leads all of them on at once.
"""

from stairrooms.errors import NoPlace, TooGreat
from stairrooms.houses import is_room, refuse_no_house, turned_about
from stairrooms.walks import shortest

LONGEST_TEXT = 200
LONGEST_WORD = 40
MOST_WORDS = 200


def refuse_bad_rooms(house, p, q):
    refuse_no_house(house)
    if not is_room(p, house[0]) or not is_room(q, house[0]):
        raise NoPlace("this is no room of the house")


def alone_at_zero(house, room):
    return [1 if other == room else 0 for other in range(house[0])]


def led_bits(deed, bits):
    if deed == "up":
        return bits << 1
    if deed == "down":
        return bits >> 1
    if deed == "zero":
        return bits & 1
    return bits


def led_on(ways, places):
    led = [0] * len(places)
    for way in ways:
        led[way[2]] = led[way[2]] | led_bits(way[1], places[way[0]])
    return led


def share_one(places, others):
    return any([(bits & beside) != 0 for bits, beside in zip(places, others)])


def ways_of_sign(house, sign):
    return [way for way in house[1] if way[3] == sign]


def ways_by_sign(house):
    signs = sorted(set([way[3] for way in house[1]]))
    return [(sign, ways_of_sign(house, sign)) for sign in signs]


def reads(house, p, q, text):
    refuse_bad_rooms(house, p, q)
    if len(text) > LONGEST_TEXT:
        raise TooGreat(f"a text has more than {LONGEST_TEXT} signs")
    places = alone_at_zero(house, p)
    for sign in text:
        places = led_on(ways_of_sign(house, sign), places)
    return share_one(places, alone_at_zero(house, q))


# For each count to the length: the places from which just so many ways lead to the room at 0.
def places_to_end(house, room, length):
    ways = turned_about(house)[1]
    places = [alone_at_zero(house, room)]
    for count in range(length):
        places.append(led_on(ways, places[count]))
    return places


# Of each beginning, a word and the places to which it leads, those by one sign more that
# can still become words.
def longer_beginnings(signs, begun, ends):
    longer = []
    for word, places in begun:
        for sign, ways in signs:
            led = led_on(ways, places)
            if share_one(led, ends):
                longer.append((word + sign, led))
    return longer


# The beginnings are in order, and each is that of at least one word: so no more of them
# need to be kept than words are asked.
def words_of_length(house, p, to_end, length, many):
    signs = ways_by_sign(house)
    begun = [("", alone_at_zero(house, p))]
    if not share_one(begun[0][1], to_end[length]):
        return []
    for left in range(length - 1, -1, -1):
        begun = longer_beginnings(signs, begun, to_end[left])[:many]
    return [word for word, places in begun]


def first_word(house, p, q):
    refuse_bad_rooms(house, p, q)
    walk = shortest(house, (p, 0), (q, 0))
    if walk is None:
        return None
    to_end = places_to_end(house, q, len(walk))
    return words_of_length(house, p, to_end, len(walk), 1)[0]


def first_words(house, p, q, length, many):
    refuse_bad_rooms(house, p, q)
    if length < 0 or length > LONGEST_WORD or many < 0 or many > MOST_WORDS:
        raise TooGreat(f"words are told to a length of {LONGEST_WORD}, at most {MOST_WORDS} of them")
    to_end = places_to_end(house, q, length)
    words = []
    for exact in range(length + 1):
        if len(words) < many:
            words.extend(words_of_length(house, p, to_end, exact, many - len(words)))
    return words

"""Rings, walks of at least one way, as lookers see them."""

from stairrooms.houses import is_house, is_near_place
from stairrooms.walks import is_walk, places_gone


# Told are the places that the ring meets behind the walk, None where one of these things
# is not what it is to be, or can't be gone.
def ring_places(house, place, walk, ring):
    if not is_house(house) or not is_near_place(place, house) or not is_walk(walk) or not is_walk(ring):
        return None
    ahead = places_gone(house, place, walk)
    if len(ahead) <= len(walk):
        return None
    places = places_gone(house, ahead[-1], ring)
    if len(places) <= len(ring) or len(ring) < 1:
        return None
    return places

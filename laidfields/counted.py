"""What a reader may count on: the fields that makes have in common."""

from laidfields.errors import NoMake


def names_apart(house, a, b):
    of_a = house.places_of(a)
    of_b = house.places_of(b)
    return (names_shared(of_a, of_b), names_alone(of_a, of_b), names_alone(of_b, of_a))


# A name that was dropped and came again lies elsewhere, as no byte is laid twice: so fields are one
# where both name and place are alike.
def names_shared(places, others):
    return [name for name in places if others.get(name) == places[name]]


def names_alone(places, others):
    return [name for name in places if others.get(name) != places[name]]


def steady_names(house, a, b):
    # What is dropped is gone for ever: what the first and the last make have, all between have.
    both = names_apart(house, a, b)[0]
    if a > b:
        raise NoMake("the first make is above the last one")
    return both

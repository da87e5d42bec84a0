"""Fields placed around what lies, with the least end."""

from laidfields.kinds import is_whole, rooms_of, rounded_up


def placed_closely(kinds, lying):
    rooms = rooms_of(kinds)
    places = closest_places(rooms, lying)
    return (places, greatest_end(stretches_at(rooms, places) + lying))


def closely_laid(fields):
    return placed_closely([field[1] for field in fields], [])


def is_placing(kinds, lying, places):
    if not isinstance(places, list) or len(places) != len(kinds):
        return False
    rooms = rooms_of(kinds)
    if not all([is_place(place, room[1]) for place, room in zip(places, rooms)]):
        return False
    return share_no_byte(sorted(stretches_at(rooms, places) + lying))


def is_place(thing, multiple):
    return is_whole(thing) and thing >= 0 and thing % multiple == 0


def share_no_byte(rising):
    return all([ahead[1] <= behind[0] for ahead, behind in zip(rising, rising[1:])])


def stretches_at(rooms, places):
    return [(place, place + room[0]) for room, place in zip(rooms, places)]


def greatest_end(stretches):
    return max([stretch[1] for stretch in stretches], default=0)


# In each placing the fields lie in some order, one behind the other. Whichever lies last of a group
# begins no later if those ahead of it end sooner: so of each group of fields, a whole number with a
# bit for each field in it, one placing with the least end is enough, and the last one of each group
# is tried behind the rest of it.
def closest_places(rooms, lying):
    ways = [(0, 0, 0)]
    for group in range(1, 1 << len(rooms)):
        ways.append(closest_way(group, ways, rooms, lying))
    return places_back_from(ways, len(rooms))


# The end of the group, which field lies last, and the place of this one.
def closest_way(group, ways, rooms, lying):
    found = []
    for k, room in enumerate(rooms):
        if group & (1 << k):
            place = free_place(ways[group - (1 << k)][0], room, lying)
            found.append((place + room[0], k, place))
    return min(found)


def places_back_from(ways, how_many):
    places = [0] * how_many
    group = len(ways) - 1
    while group > 0:
        way = ways[group]
        places[way[1]] = way[2]
        group = group - (1 << way[1])
    return places


def free_place(begin, room, lying):
    place = rounded_up(begin, room[1])
    for stretch in lying:
        if stretch[0] < place + room[0] and place < stretch[1]:
            # What lies rises: a stretch that was passed is not met again.
            place = rounded_up(stretch[1], room[1])
    return place

"""Fields laid in their order, and the holes of a kind."""

from laidfields.kinds import chosen_at, places_behind, room_of, rooms_of, step_of


def places_in_order(fields):
    places = places_behind(rooms_of([field[1] for field in fields]))
    return [(field[0], place) for field, place in zip(fields, places)]


def holes_of(kind):
    filled = filled_bytes(kind)
    holes = []
    begin = 0
    for place, is_filled in enumerate(filled):
        if is_filled:
            if begin < place:
                holes.append((begin, place))
            begin = place + 1
    if begin < len(filled):
        holes.append((begin, len(filled)))
    return holes


# Of each byte of the room a truth: whether a number's byte or a mark can lie there.
def filled_bytes(kind):
    if kind[0] == "number":
        return [True] * kind[1]
    if kind[0] == "row":
        return filled_step(kind[1]) * kind[2]
    if kind[0] == "record":
        return filled_record(kind)
    return filled_choice(kind)


def filled_step(kind):
    filled = [False] * step_of(room_of(kind))
    fill(filled, 0, kind)
    return filled


def filled_record(kind):
    filled = [False] * room_of(kind)[0]
    for field, placed in zip(kind[1], places_in_order(kind[1])):
        fill(filled, placed[1], field[1])
    return filled


def filled_choice(kind):
    room = room_of(kind)
    filled = [False] * room[0]
    filled[0] = True
    for inner in kind[1]:
        fill(filled, chosen_at(room[1]), inner)
    return filled


def fill(filled, place, kind):
    for k, is_filled in enumerate(filled_bytes(kind)):
        # What another kind of a choice fills stays filled.
        if is_filled:
            filled[place + k] = True

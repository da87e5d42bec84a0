"""Kinds of things: which things are kinds, and the room and the multiple of each."""

SMALL_LETTERS = "abcdefghijklmnopqrstuvwxyz"
LONGEST_NAME = 8
WIDEST_NUMBER = 8
MULTIPLES = (1, 2, 4, 8)
LONGEST_ROW = 20
MOST_FIELDS = 8
MOST_CHOICES = 6
DEEPEST = 5


def is_whole(thing):
    return isinstance(thing, int) and not isinstance(thing, bool)


def is_whole_up_to(thing, greatest):
    return is_whole(thing) and 1 <= thing <= greatest


def is_list_up_to(thing, longest):
    return isinstance(thing, list) and 1 <= len(thing) <= longest


def is_name(thing):
    if not isinstance(thing, str) or not 1 <= len(thing) <= LONGEST_NAME:
        return False
    return all([sign in SMALL_LETTERS for sign in thing])


def has_form(thing, word, length):
    if not isinstance(thing, tuple) or len(thing) != length:
        return False
    # Only a text is compared: anything may stand here, also what answers == with an error.
    return isinstance(thing[0], str) and thing[0] == word


def is_kind(thing):
    return is_kind_within(thing, DEEPEST)


def is_kind_within(thing, depth):
    # The depth that is left ends the walk, however deep a thing is, or if it lies within itself.
    if depth < 1:
        return False
    if has_form(thing, "number", 3):
        return is_whole_up_to(thing[1], WIDEST_NUMBER) and is_whole(thing[2]) and thing[2] in MULTIPLES
    if has_form(thing, "row", 3):
        return is_whole_up_to(thing[2], LONGEST_ROW) and is_kind_within(thing[1], depth - 1)
    if has_form(thing, "record", 2):
        return is_list_up_to(thing[1], MOST_FIELDS) and are_fields(thing[1], depth - 1)
    if has_form(thing, "choice", 2):
        return is_list_up_to(thing[1], MOST_CHOICES) and are_kinds(thing[1], depth - 1)
    return False


def are_kinds(things, depth):
    return all([is_kind_within(thing, depth) for thing in things])


def are_fields(things, depth):
    names = {}
    for thing in things:
        if not isinstance(thing, tuple) or len(thing) != 2:
            return False
        if not is_name(thing[0]) or thing[0] in names:
            return False
        names[thing[0]] = True
    return are_kinds([thing[1] for thing in things], depth)


def rounded_up(number, m):
    return (number + m - 1) // m * m


def room_of(kind):
    if kind[0] == "number":
        return (kind[1], kind[2])
    if kind[0] == "row":
        return room_of_row(kind[1], kind[2])
    if kind[0] == "record":
        return room_of_record([field[1] for field in kind[1]])
    return room_of_choice(kind[1])


def rooms_of(kinds):
    return [room_of(kind) for kind in kinds]


def greatest_multiple(rooms):
    return max([room[1] for room in rooms], default=1)


def step_of(room):
    # A number's room is perhaps no multiple of its multiple: the next thing of a row must begin at one.
    return rounded_up(room[0], room[1])


def room_of_row(kind, n):
    room = room_of(kind)
    return (n * step_of(room), room[1])


def room_of_record(kinds):
    rooms = rooms_of(kinds)
    multiple = greatest_multiple(rooms)
    ends = [place + room[0] for place, room in zip(places_behind(rooms), rooms)]
    return (rounded_up(max(ends, default=0), multiple), multiple)


def places_behind(rooms):
    # It stands here and not in inorder: a record's room hangs on it, and inorder draws from here.
    places = []
    end = 0
    for room in rooms:
        place = rounded_up(end, room[1])
        places.append(place)
        end = place + room[0]
    return places


def room_of_choice(kinds):
    rooms = rooms_of(kinds)
    multiple = greatest_multiple(rooms)
    greatest = max([room[0] for room in rooms], default=0)
    return (rounded_up(chosen_at(multiple) + greatest, multiple), multiple)


def chosen_at(multiple):
    # The mark takes the first byte.
    return rounded_up(1, multiple)

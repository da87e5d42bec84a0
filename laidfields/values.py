"""Values of kinds, their bytes, and the values of bytes."""

from laidfields.errors import NoBytes, NoValue
from laidfields.inorder import places_in_order
from laidfields.kinds import chosen_at, is_whole, room_of, step_of

HOW_MANY_BYTES = 256
BITS_OF_A_BYTE = 8


def is_value(kind, thing):
    if kind[0] == "number":
        return is_whole(thing) and thing >= 0 and thing.bit_length() <= BITS_OF_A_BYTE * kind[1]
    if kind[0] == "row":
        return is_row_value(kind[1], kind[2], thing)
    if kind[0] == "record":
        return is_record_value(kind[1], thing)
    return is_choice_value(kind[1], thing)


def is_row_value(kind, n, thing):
    if not isinstance(thing, list) or len(thing) != n:
        return False
    return all([is_value(kind, each) for each in thing])


def is_record_value(fields, thing):
    if not isinstance(thing, dict) or len(thing) != len(fields):
        return False
    # Names are looked up among texts only: a key may be anything, also what answers == with an error.
    if not all([isinstance(key, str) for key in thing]):
        return False
    return all([field[0] in thing and is_value(field[1], thing[field[0]]) for field in fields])


def is_choice_value(kinds, thing):
    if not isinstance(thing, tuple) or len(thing) != 2:
        return False
    if not is_whole(thing[0]) or not 0 <= thing[0] < len(kinds):
        return False
    return is_value(kinds[thing[0]], thing[1])


def bytes_of(kind, thing):
    if not is_value(kind, thing):
        raise NoValue("this is no value of the kind")
    return laid_bytes(kind, thing)


def laid_bytes(kind, value):
    if kind[0] == "number":
        return number_bytes(kind[1], value)
    laid = [0] * room_of(kind)[0]
    if kind[0] == "row":
        step = step_of(room_of(kind[1]))
        for k, each in enumerate(value):
            lay(laid, k * step, laid_bytes(kind[1], each))
    elif kind[0] == "record":
        for field, placed in zip(kind[1], places_in_order(kind[1])):
            lay(laid, placed[1], laid_bytes(field[1], value[field[0]]))
    else:
        laid[0] = value[0]
        lay(laid, chosen_at(room_of(kind)[1]), laid_bytes(kind[1][value[0]], value[1]))
    return laid


def number_bytes(w, value):
    some = []
    rest = value
    for k in range(w):
        some.append(rest % HOW_MANY_BYTES)
        rest = rest // HOW_MANY_BYTES
    return some


def lay(laid, place, some):
    for k, byte in enumerate(some):
        laid[place + k] = byte


def value_of(kind, thing):
    if not are_bytes(thing, room_of(kind)[0]):
        raise NoBytes("this is no list of as many bytes as the kind has room")
    value = value_at(kind, thing, 0)
    # Each value has just one row of bytes: what would be written otherwise has a byte that should be 0.
    if laid_bytes(kind, value) != thing:
        raise NoBytes("a byte that must be 0 is not 0")
    return value


def are_bytes(thing, how_many):
    if not isinstance(thing, list) or len(thing) != how_many:
        return False
    return all([is_byte(each) for each in thing])


def is_byte(thing):
    return is_whole(thing) and 0 <= thing < HOW_MANY_BYTES


def value_at(kind, some, place):
    if kind[0] == "number":
        return number_at(kind[1], some, place)
    if kind[0] == "row":
        step = step_of(room_of(kind[1]))
        return [value_at(kind[1], some, place + k * step) for k in range(kind[2])]
    if kind[0] == "record":
        return record_at(kind[1], some, place)
    return choice_at(kind, some, place)


def number_at(w, some, place):
    value = 0
    for byte in reversed(some[place:place + w]):
        value = value * HOW_MANY_BYTES + byte
    return value


def record_at(fields, some, place):
    value = {}
    for field, placed in zip(fields, places_in_order(fields)):
        value[field[0]] = value_at(field[1], some, place + placed[1])
    return value


def choice_at(kind, some, place):
    mark = some[place]
    if mark >= len(kind[1]):
        raise NoBytes("a mark stands for no kind of its choice")
    return (mark, value_at(kind[1][mark], some, place + chosen_at(room_of(kind)[1])))


# Kinds and values alike, at any depth; what stands twice within a thing stands there as two copies.
def copied(thing):
    if isinstance(thing, list):
        return [copied(each) for each in thing]
    if isinstance(thing, tuple):
        return tuple([copied(each) for each in thing])
    if isinstance(thing, dict):
        return dict([(key, copied(thing[key])) for key in thing])
    return thing

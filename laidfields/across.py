"""Bytes of one make, written, and read or changed by a hand of another make."""

from laidfields.errors import NoBytes, NoValue
from laidfields.kinds import room_of
from laidfields.values import are_bytes, copied, is_record_value, is_value, laid_bytes, lay, value_of


def written(house, make, thing):
    laid = house.make_at(make)
    if not is_record_value(laid[0], thing):
        raise NoValue("this is no value of the make")
    some = [0] * laid[1]
    for field in laid[0]:
        lay(some, field[3], laid_bytes(field[1], thing[field[0]]))
    return some


def read_by(house, a, b, thing):
    theirs = house.make_at(a)
    ours = house.make_at(b)
    stands = values_by_places(theirs, thing)
    value = {}
    for field in ours[0]:
        value[field[0]] = stands[field[3]] if field[3] in stands else copied(field[2])
    return value


def handed_on(house, a, b, thing, changes):
    theirs = house.make_at(a)
    ours = house.make_at(b)
    later = house.make_at(max(a, b))
    stands = values_by_places(theirs, thing)
    changed = changes_by_places(ours, changes)
    # Rooms never shrink from make to make, so that all bytes that came find theirs.
    some = thing + [0] * (later[1] - len(thing))
    for field in later[0]:
        if field[3] in changed:
            lay(some, field[3], laid_bytes(field[1], changed[field[3]]))
        elif field[3] not in stands:
            lay(some, field[3], laid_bytes(field[1], field[2]))
    return some


# Bytes that were laid once are never used by another field: so a place tells which field it is, in
# whatever make, as its name does not.
def values_by_places(laid, thing):
    if not are_bytes(thing, laid[1]):
        raise NoBytes("this is no list of as many bytes as the make has room")
    stands = {}
    for field in laid[0]:
        end = field[3] + room_of(field[1])[0]
        stands[field[3]] = value_of(field[1], thing[field[3]:end])
    return stands


def changes_by_places(laid, changes):
    if not isinstance(changes, dict):
        raise NoValue("the changes are no dict")
    fields = dict([(field[0], field) for field in laid[0]])
    changed = {}
    for key, value in changes.items():
        # Only texts are looked up: a key may be anything, also what answers == with an error.
        if not isinstance(key, str) or key not in fields or not is_value(fields[key][1], value):
            raise NoValue("a name that the make has not, or a value that is none of its field")
        changed[fields[key][3]] = value
    return changed

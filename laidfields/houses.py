"""Houses of makes: fields come and go, and what is laid stays where it lies."""

from laidfields.closely import greatest_end, placed_closely, stretches_at
from laidfields.errors import NoMake
from laidfields.kinds import greatest_multiple, has_form, is_kind, is_name, is_whole, rooms_of, rounded_up
from laidfields.values import copied, is_value

MOST_ADDED = 5


class House:
    def __init__(self, fields):
        # Of each make a tuple: its fields, each (name, kind, agreed, place), and its room.
        self.makes = []
        # All that was ever laid, dropped or not: rising stretches, and the greatest multiple.
        self.lying = []
        self.multiple = 1
        self.begin_make([], changes_to_begin(fields))

    def next_make(self, changes):
        self.begin_make(self.makes[-1][0], changes)
        return len(self.makes) - 1

    def begin_make(self, there, changes):
        # Whatever is refused is refused by this first row, before anything of the house is changed.
        fields = fields_behind(there, changes)
        kept = [field for field in fields if field[3] is not None]
        new = [field for field in fields if field[3] is None]
        kinds = [field[1] for field in new]
        rooms = rooms_of(kinds)
        places = placed_closely(kinds, self.lying)[0]
        laid = kept + [field[:3] + (place,) for field, place in zip(new, places)]
        self.lying = sorted(self.lying + stretches_at(rooms, places))
        self.multiple = max(self.multiple, greatest_multiple(rooms))
        self.makes.append((laid, rounded_up(greatest_end(self.lying), self.multiple)))

    def how_many_makes(self):
        return len(self.makes)

    def fields_of(self, make):
        return [copied(field[:3]) for field in self.make_at(make)[0]]

    def places_of(self, make):
        return dict([(field[0], field[3]) for field in self.make_at(make)[0]])

    def room_at(self, make):
        return self.make_at(make)[1]

    def make_at(self, make):
        if not is_whole(make) or not 0 <= make < len(self.makes):
            raise NoMake("the house has no such make")
        return self.makes[make]


def changes_to_begin(fields):
    if not isinstance(fields, list):
        raise NoMake("the fields are no list")
    if not all([isinstance(field, tuple) and len(field) == 3 for field in fields]):
        raise NoMake("a field is no tuple of a name, a kind and an agreed value")
    return [("add",) + field for field in fields]


def fields_behind(there, changes):
    if not isinstance(changes, list):
        raise NoMake("the changes are no list")
    # Those that are dropped again by the same list count as well.
    if len([change for change in changes if has_form(change, "add", 4)]) > MOST_ADDED:
        raise NoMake("more than five fields are added at once")
    fields = there
    for change in changes:
        fields = fields_behind_one(fields, change)
    return fields


def fields_behind_one(fields, change):
    if has_form(change, "drop", 2):
        return fields_without(fields, change[1])
    if has_form(change, "add", 4):
        return fields + [new_field(fields, change)]
    raise NoMake("a change neither adds a field nor drops one")


def fields_without(fields, name):
    if not is_name(name) or not is_there(fields, name):
        raise NoMake("no field of this name is there to be dropped")
    return [field for field in fields if field[0] != name]


# Its place is None until it is laid.
def new_field(fields, change):
    if not is_name(change[1]) or is_there(fields, change[1]):
        raise NoMake("a field is added by a name that is none, or that is there")
    if not is_kind(change[2]) or not is_value(change[2], change[3]):
        raise NoMake("a field is added with a kind or an agreed value that is none")
    return (change[1], copied(change[2]), copied(change[3]), None)


def is_there(fields, name):
    return name in [field[0] for field in fields]

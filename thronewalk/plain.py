"""What anything is asked before it is read as something."""


def is_number(thing):
    # Python holds True and False for ints; here they are no numbers.
    return isinstance(thing, int) and not isinstance(thing, bool)


def is_tuple_of(thing, many):
    return isinstance(thing, tuple) and len(thing) == many


def is_rising(things):
    return all(things[at] < things[at + 1] for at in range(len(things) - 1))

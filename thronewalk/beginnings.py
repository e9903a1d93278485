"""How far two tuples of folk go together, and who comes next in each."""


def shared_many(first, second):
    """How many folk two tuples have in common from the beginning on."""
    many = 0
    while many < min(len(first), len(second)) and first[many] == second[many]:
        many += 1
    return many


def folk_at(folk, place):
    return folk[place] if place < len(folk) else -1

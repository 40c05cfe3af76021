"""What ways and books show of their group: the things that leave all still, and the steady parts."""


def still(way):
    rest = [(place, 0) for place in range(way.size)]
    return [thing for thing in range(way.group.many) if way.moves(thing) == rest]


# A steady part is what some ways of the book leave still together (for all things: none of them).
def steadies(book):
    found = [list(range(book.group.many))]
    for way in book.ways:
        kept = still(way)
        for part in list(found):
            common = [thing for thing in part if thing in kept]
            if common not in found:
                found.append(common)
    return sorted(found, key=size_and_things)


def size_and_things(part):
    return (len(part), part)

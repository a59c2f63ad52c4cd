"""Colours: numbers for regions, neighbours unlike, as few as can be, with papers."""

from borderwright.errors import BadPaper, BadSize


def links_of(names, pairs):
    """Return a table of names to lists of their neighbours, in order; BadSize for a pair of other names."""
    found = {name: {} for name in names}
    for one, other in pairs:
        if one not in found or other not in found or one == other:
            raise BadSize("a pair of other names, or of one name with itself")
        found[one][other] = True
        found[other][one] = True
    return {name: sorted(found[name]) for name in found}


def coloured(names, pairs, many):
    """Return a table of names to colours below so many, the first in order of names, None for none; BadSize."""
    links = links_of(names, pairs)
    found = {}
    if not lay(links, list(links), 0, many, found):
        return None
    return found


def lay(links, names, place, many, found):
    """Give colours to names from a place on; tell whether all could have one."""
    row = list(names[place:])
    ahead = places_ahead(links, row)
    # For each name the places of those that may have to change before it can have a colour.
    blamed = [{other: True for other in places} for places in ahead]
    least = [0 for _ in row]
    here = 0
    while here < len(row):
        colour = free_colour(links[row[here]], least[here], many, found)
        if colour is not None:
            found[row[here]] = colour
            least[here] = colour + 1
            here += 1
        else:
            back = max(list(blamed[here]), default=-1)
            for number in range(max(back, 0), here):
                found.pop(row[number])
            if back < 0:
                return False
            blamed[back].update({other: True for other in blamed[here] if other != back})
            for number in range(back + 1, here + 1):
                blamed[number] = {other: True for other in ahead[number]}
                least[number] = 0
            here = back
    return True


def places_ahead(links, row):
    """Return for each name of a row the places of its neighbours that stand ahead of it."""
    places = {name: place for place, name in enumerate(row)}
    return [[places[other] for other in links[name] if places.get(other, place) < place]
            for place, name in enumerate(row)]


def free_colour(beside, least, many, found):
    """Return the first colour, from a least one on, worth trying for a name with such neighbours, None for none."""
    taken = {other: True for other in found.values()}
    barred = {found[other]: True for other in beside if other in found}
    fresh = 0
    while fresh in taken:
        fresh += 1
    for colour in range(least, many):
        # Those that nobody has yet are alike: where the first of them won't do, none will.
        if colour not in barred and (colour in taken or colour == fresh):
            return colour
    return None


def fewest(names, pairs):
    """Return the least count of colours; BadSize."""
    links = links_of(names, pairs)
    row = by_fewest(names, pairs)
    many = len(all_neighbours(names, pairs))
    while not lay(links, row, 0, many, {}):
        many += 1
    return many


def check_colours(names, pairs, colours):
    """Return how many colours a table has where all names have one and neighbours unlike ones; BadPaper, BadSize."""
    if sorted(colours) != sorted(names):
        raise BadPaper("not just the names have colours")
    links = links_of(names, pairs)
    for name in names:
        if any([colours[other] == colours[name] for other in links[name]]):
            raise BadPaper("neighbours have alike colours")
    return len(set(list(colours.values())))


def all_neighbours(names, pairs):
    """Return the greatest lot of names that are all neighbours, the first in order of such; BadSize."""
    links = links_of(names, pairs)
    row = list(links)
    goes = [{place: True for place, other in enumerate(row) if other in links[name]} for name in row]
    return tuple([row[place] for place in most_together(goes)])


def most_together(goes):
    """Return the first greatest row of places any two of which go together, by a table for each of those it goes with.

    The first is the one with the lesser place where two rows first differ.
    """
    lots = lots_apart(goes)
    found = []
    # What goes together with all of the others can be looked at apart from them.
    for rest in tied_lots(goes):
        found.extend(list(most_of(goes, lots, rest)))
    return tuple(sorted(found))


def tied_lots(goes):
    """Return places in lots, each lot's in order, so that those of two lots always go together."""
    found = []
    left = list(range(len(goes)))
    while left != []:
        lot = [left.pop(0)]
        place = 0
        while place < len(lot):
            lot.extend([other for other in left if other not in goes[lot[place]]])
            left = [other for other in left if other in goes[lot[place]]]
            place += 1
        found.append(sorted(lot))
    return found


def most_of(goes, lots, places):
    """Return the first greatest row of some places any two of which go together, by the lots of those that don't."""
    best = ()
    waiting = [((), places)]
    while waiting != []:
        row, rest = waiting.pop()
        # Of each lot just one can be had.
        if len(row) + len({lots[place] for place in rest}) > len(best):
            if rest == []:
                best = row
            else:
                first = rest[0]
                waiting.append((row, rest[1:]))
                waiting.append(((*row, first), [place for place in rest[1:] if place in goes[first]]))
    return best


def lots_apart(goes):
    """Return for each place the number of its lot: the first one with none of which it goes together."""
    lots = []
    found = []
    for place in range(len(goes)):
        number = 0
        while number < len(lots) and any([other in goes[place] for other in lots[number]]):
            number += 1
        if number == len(lots):
            lots.append([])
        lots[number].append(place)
        found.append(number)
    return found


def check_least(names, pairs, colours, lot):
    """Return the count of colours that a lot of as many all neighbours shows to be least; BadPaper, BadSize."""
    links = links_of(names, pairs)
    many = check_colours(names, pairs, colours)
    if len({name: True for name in lot}) != many or len(lot) != many or any([name not in links for name in lot]):
        raise BadPaper("not as many names as there are colours")
    if any([one != other and other not in links[one] for one in lot for other in lot]):
        raise BadPaper("the names are not all neighbours")
    return many


def greedy(names, pairs):
    """Return a table of names to colours: each in order the least that no neighbour ahead has; BadSize."""
    links = links_of(names, pairs)
    found = {}
    for name in links:
        taken = {found[other]: True for other in links[name] if other in found}
        colour = 0
        while colour in taken:
            colour += 1
        found[name] = colour
    return found


def by_fewest(names, pairs):
    """Return names so that each, from the last on, has the fewest neighbours among those left; BadSize."""
    links = links_of(names, pairs)
    found = []
    while links != {}:
        name = fewest_linked(links)
        found.append(name)
        links = links_but(links, name)
    return tuple(found[::-1])


def fewest_linked(links):
    """Return the name that has the fewest neighbours, the first of such."""
    best = None
    for name in links:
        if best is None or len(links[name]) < len(links[best]):
            best = name
    return best


def links_but(links, name):
    """Return links without a name."""
    return {one: [other for other in links[one] if other != name] for one in links if one != name}


def how_many(names, pairs, many):
    """Return in how many ways names get colours below so many, neighbours unlike; BadSize below nought."""
    if many < 0:
        raise BadSize("fewer than no colours")
    found = 0
    waiting = [(links_of(names, pairs), 1)]
    while waiting != []:
        links, ways = waiting.pop()
        if links == {} or ways == 0:
            found += ways
        else:
            name = fewest_linked(links)
            loose = first_loose(links, links[name])
            if loose is None:
                # All its neighbours have unlike colours, and it has any of the others.
                waiting.append((links_but(links, name), ways * (many - len(links[name]))))
            else:
                # Two that are no neighbours have unlike colours, or the same one.
                waiting.append((links_and(links, loose[0], loose[1]), ways))
                waiting.append((links_as_one(links, loose[0], loose[1]), ways))
    return found


def first_loose(links, row):
    """Return the first (name, name) of a row that are no neighbours, None for none."""
    for place, one in enumerate(row):
        for other in row[:place]:
            if other not in links[one]:
                return (other, one)
    return None


def links_and(links, one, other):
    """Return links in which two names are neighbours too."""
    found = {name: links[name] for name in links}
    found[one] = [*links[one], other]
    found[other] = [*links[other], one]
    return found


def links_as_one(links, one, other):
    """Return links in which a name stands for another one too."""
    found = links_but(links, other)
    for name in links[other]:
        if name not in found[one]:
            found[one].append(name)
            found[name].append(one)
    return found

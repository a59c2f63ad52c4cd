"""Districts: regions of squares put in lots that hang together, as even as can be, with papers."""

from borderwright.errors import BadPaper, BadSize

MOST_NAMES = 12


def check_weights(names, links, weights):
    """Refuse with BadSize weights that aren't names', or links that aren't both ways."""
    if sorted(weights) != sorted(names) or any([weights[name] < 0 for name in names]):
        raise BadSize("weights of other names, or one below nought")
    for name in names:
        if any([name not in links.get(one, ()) for one in links.get(name, ())]):
            raise BadSize("a link that goes one way only")


def hangs(links, lot):
    """Tell whether a lot of names hangs together, a bare one not."""
    return len(lot) > 0 and may_hang(links, lot, ())


def may_hang(links, lot, others):
    """Tell whether all names of a lot can be come to from its first by links among it and some other names."""
    left = {name: True for name in [*lot, *others] if name != lot[0]}
    waiting = [lot[0]]
    while waiting != []:
        here = waiting.pop()
        for name in links.get(here, ()):
            if name in left:
                left.pop(name)
                waiting.append(name)
    return not any([name in left for name in lot])


def all_cuts(names, links, many):
    """Return all ways to put names in so many lots that hang together, lots by their first names, in order; BadSize."""
    if many < 1 or len(names) > MOST_NAMES:
        raise BadSize("fewer than one lot, or too many names")
    found = [()]
    for place, name in enumerate(names):
        rest = names[place + 1:]
        known = {}
        found = [cut for before in found for cut in cuts_with(before, name)
                 if may_become(links, cut, rest, many, known)]
    return tuple([cut for cut in found if len(cut) == many])


def cuts_with(cut, name):
    """Return cuts in which a name has gone to each of a cut's lots in turn, and to a new one."""
    found = []
    for number, lot in enumerate(cut):
        found.append((*cut[:number], (*lot, name), *cut[number + 1:]))
    found.append((*cut, (name,)))
    return found


def may_become(links, cut, rest, many, known):
    """Tell whether the names that are left may make so many lots that hang together of a cut; known keeps answers."""
    if not len(cut) <= many <= len(cut) + len(rest):
        return False
    for lot in cut:
        if lot not in known:
            known[lot] = may_hang(links, lot, rest)
        if not known[lot]:
            return False
    return True


def uneven(weights, cut):
    """Return the heaviest lot's weight less the lightest one's."""
    sizes = [sum([weights[name] for name in lot]) for lot in cut]
    return max(sizes, default=0) - min(sizes, default=0)


def evenest(names, links, weights, many):
    """Return the cut that is least uneven, the first in order of such, None where there is none; BadSize."""
    check_weights(names, links, weights)
    best = None
    least = 0
    for cut in all_cuts(names, links, many):
        here = uneven(weights, cut)
        if best is None or here < least:
            best, least = cut, here
    return best


def cut_edges(links, cut):
    """Return how many links go between lots."""
    lots = {name: number for number, lot in enumerate(cut) for name in lot}
    found = {}
    for one in lots:
        for other in links.get(one, ()):
            # Links are told both ways, and each counts once.
            if lots.get(other, lots[one]) != lots[one] and (other, one) not in found:
                found[(one, other)] = True
    return len(found)


def check_cut(names, links, weights, cut, much):
    """Return by how much a cut of all names in lots that hang together is uneven, no more than told; BadPaper."""
    if sorted([name for lot in cut for name in lot]) != sorted(names) or not all([hangs(links, lot) for lot in cut]):
        raise BadPaper("not all names, each once, in lots that hang together")
    check_weights(names, links, weights)
    here = uneven(weights, cut)
    if here > much:
        raise BadPaper("more uneven than told")
    return here


def swapped(links, cut, weights):
    """Return a cut bettered step by step: the first name moved to another lot by which it gets less uneven."""
    found = [list(lot) for lot in cut]
    after = found
    while after is not None:
        found = after
        after = first_better(links, found, weights)
    return tuple([tuple(sorted(lot)) for lot in found])


def first_better(links, cut, weights):
    """Return the lots of the first move of a name by which a cut gets less uneven, None for none."""
    here = uneven(weights, cut)
    for one, lot in enumerate(cut):
        for name in lot:
            for other in range(len(cut)):
                tried = gone_over(cut, name, one, other)
                if uneven(weights, tried) < here and all([hangs(links, row) for row in tried]):
                    return tried
    return None


def gone_over(cut, name, one, other):
    """Return lots in which a name has gone from one to another."""
    found = [list(lot) for lot in cut]
    found[one].remove(name)
    found[other].append(name)
    return found


def seats(votes, many):
    """Return seats by votes: each goes to the most votes by seats had and one, the first of alike ones; BadSize."""
    if many < 0 or len(votes) == 0 or min(votes.values()) < 0:
        raise BadSize("fewer than no seats, no votes at all, or votes below nought")
    found = {name: 0 for name in sorted(votes)}
    for _ in range(many):
        best = None
        for name in found:
            if best is None or votes[name] * (found[best] + 1) > votes[best] * (found[name] + 1):
                best = name
        found[best] += 1
    return found


def won(lots, sides):
    """Return a table of sides to lots won, none without: most weight of names, (side, weight); a tie is nobody's."""
    found = {}
    for lot in lots:
        best = heaviest(lot, sides)
        if best is not None:
            found[best] = found.get(best, 0) + 1
    return found


def heaviest(lot, sides):
    """Return the side that has most weight in a lot, None for a tie, or for a bare lot."""
    weights = {}
    for name in lot:
        one, weight = sides[name]
        weights[one] = weights.get(one, 0) + weight
    most = max(weights.values(), default=0)
    found = [one for one in weights if weights[one] == most]
    if len(found) != 1:
        return None
    return found[0]

"""Nets of parts, and the wholes that they make."""

from anyaround.errors import UnlikeDoors
from anyaround.netlists import net_of
from anyaround.parts import Part, check_door


def offsets_of(parts):
    """The numbers that the places 0 of the parts have in the whole, and behind them the number of all their places."""
    found = [0]
    for part in parts:
        found.append(found[-1] + part.web().places())
    return found


def begins_of(parts, ins):
    """The numbers of the whole's in doors, by the pairs (part, place) to which they lead."""
    first = offsets_of(parts)[-1]
    found = {}
    for number, pairs in enumerate(ins):
        for part, door in pairs:
            found.setdefault((part, parts[part].ins()[door]), []).append(first + number)
    return found


def ends_of(parts, links, ins, outs):
    """The numbers of the places to which one comes at once, by the pairs (part, place) of out doors."""
    offsets = offsets_of(parts)
    found = {}
    for part, out, other, door in links:
        found.setdefault((part, parts[part].outs()[out]), []).append(offsets[other] + parts[other].ins()[door])
    first = offsets[-1] + len(ins)
    for number, pairs in enumerate(outs):
        for part, out in pairs:
            found.setdefault((part, parts[part].outs()[out]), []).append(first + number)
    return found


def whole_of(parts, links, ins, outs):
    """The whole of a net that was read."""
    offsets = offsets_of(parts)
    begins = begins_of(parts, ins)
    ends = ends_of(parts, links, ins, outs)
    steps = {}
    for number, part in enumerate(parts):
        for one, other, amounts, ticks, change in part.web().steps():
            for begin in [offsets[number] + one] + begins.get((number, one), []):
                for end in [offsets[number] + other] + ends.get((number, other), []):
                    steps[(begin, end, amounts, ticks, change)] = True
    first = offsets[-1]
    mid = first + len(ins)
    places = mid + len(outs)
    return Part(places, list(steps), list(range(first, mid)), list(range(mid, places)))


def wired(parts, links, ins, outs):
    """The whole of a net of parts."""
    net = net_of(parts, links, ins, outs)
    return whole_of(*net)


def by_itself(number, many):
    """Each of so many doors of a part in a list by itself."""
    return [[(number, door)] for door in range(many)]


def behind(one, other):
    """The part that other is behind one."""
    if len(one.outs()) != len(other.ins()):
        raise UnlikeDoors()
    links = [(0, door, 1, door) for door in range(len(one.outs()))]
    return whole_of([one, other], links, by_itself(0, len(one.ins())), by_itself(1, len(other.outs())))


def either(one, other):
    """The part that is gone through by one or by other."""
    if len(one.ins()) != len(other.ins()) or len(one.outs()) != len(other.outs()):
        raise UnlikeDoors()
    ins = [[(0, door), (1, door)] for door in range(len(one.ins()))]
    outs = [[(0, door), (1, door)] for door in range(len(one.outs()))]
    return whole_of([one, other], [], ins, outs)


def again(part, out, door):
    """The part with a link back from an out door to an in door."""
    check_door(part.outs(), out)
    check_door(part.ins(), door)
    return whole_of([part], [(0, out, 0, door)], by_itself(0, len(part.ins())), by_itself(0, len(part.outs())))

"""What nets are told by: parts, links, and the doors of the whole."""

from anyaround.checks import is_integers, is_list
from anyaround.errors import BadIns, BadLinks, BadOuts, BadParts
from anyaround.parts import Part


def read_parts(things):
    """The list of the parts of a net."""
    if not is_list(things) or not things:
        raise BadParts(0)
    for index, thing in enumerate(things):
        if not isinstance(thing, Part):
            raise BadParts(index)
    return list(things)


def has_door(many, part, door):
    """Whether there is such a door of such a part, where many has how many each part has."""
    return 0 <= part < len(many) and 0 <= door < many[part]


def read_links(ins, outs, things):
    """Unlike links, as tuples; ins and outs have how many doors each part has."""
    if not is_list(things):
        raise BadLinks(0)
    found = {}
    for index, thing in enumerate(things):
        if not is_integers(thing, 4) or tuple(thing) in found:
            raise BadLinks(index)
        if not has_door(outs, thing[0], thing[1]) or not has_door(ins, thing[2], thing[3]):
            raise BadLinks(index)
        found[tuple(thing)] = True
    return list(found)


def read_pairs(many, things):
    """One or more unlike pairs of a part and a door of it, as tuples; None for what is no list of these."""
    if not is_list(things) or not things:
        return None
    found = {}
    for thing in things:
        if not is_integers(thing, 2) or not has_door(many, thing[0], thing[1]) or tuple(thing) in found:
            return None
        found[tuple(thing)] = True
    return list(found)


def read_lists(many, things):
    """A pair: one list or more of unlike pairs, or None; None, or the index of the first thing that is none."""
    if not is_list(things) or not things:
        return None, 0
    found = []
    for index, thing in enumerate(things):
        pairs = read_pairs(many, thing)
        if pairs is None:
            return None, index
        found.append(pairs)
    return found, None


def read_net(part_ins, part_outs, links, ins, outs):
    """Links and the lists of the doors of a whole, as tuples, where parts have so many in doors and out doors."""
    found_links = read_links(part_ins, part_outs, links)
    found_ins, wrong = read_lists(part_ins, ins)
    if wrong is not None:
        raise BadIns(wrong)
    found_outs, wrong = read_lists(part_outs, outs)
    if wrong is not None:
        raise BadOuts(wrong)
    return found_links, found_ins, found_outs


def net_of(parts, links, ins, outs):
    """The parts, links, in doors and out doors of a net, as read_net tells them."""
    found = read_parts(parts)
    part_ins = [len(part.ins()) for part in found]
    part_outs = [len(part.outs()) for part in found]
    found_links, found_ins, found_outs = read_net(part_ins, part_outs, links, ins, outs)
    return found, found_links, found_ins, found_outs

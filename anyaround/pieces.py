"""The passes of wholes, and the pieces of them that are passes of the parts."""

from anyaround.checks import is_integers, is_list
from anyaround.errors import BadPieces, BadWalk
from anyaround.netlists import net_of
from anyaround.nets import offsets_of, whole_of
from anyaround.parts import check_door
from anyaround.webs import read_walk


def read_piece(parts, thing):
    """A piece (part, i, j, walk) of parts, the walk a list of steps of tuples; None for what is none."""
    if not is_list(thing) or len(thing) != 4 or not is_integers(thing[:3], 3):
        return None
    number, i, j, walk = thing
    if number < 0 or number >= len(parts):
        return None
    ins = parts[number].ins()
    outs = parts[number].outs()
    if i < 0 or i >= len(ins) or j < 0 or j >= len(outs):
        return None
    steps = read_walk(parts[number].web(), walk)
    if not steps or steps[0][0] != ins[i] or steps[-1][1] != outs[j]:
        return None
    return number, i, j, steps


def read_pieces(parts, links, begin, end, things):
    """Pieces that follow on one another, from the pairs of an in door to those of an out door."""
    if not is_list(things) or not things:
        raise BadPieces(0)
    found = []
    for index, thing in enumerate(things):
        piece = read_piece(parts, thing)
        if piece is None:
            raise BadPieces(index)
        number, i, _, _ = piece
        if index == 0 and (number, i) not in begin:
            raise BadPieces(0)
        if index > 0 and (found[-1][0], found[-1][2], number, i) not in links:
            raise BadPieces(index)
        found.append(piece)
    if (found[-1][0], found[-1][2]) not in end:
        raise BadPieces(len(found))
    return found


def pass_of(parts, links, ins, outs, k, l, pieces):
    """The pass of the whole from in door k to out door l that has the steps of pieces."""
    found, read, begins, ends = net_of(parts, links, ins, outs)
    check_door(begins, k)
    check_door(ends, l)
    checked = read_pieces(found, read, begins[k], ends[l], pieces)
    offsets = offsets_of(found)
    place = offsets[-1] + k
    walk = []
    for index, (number, _, _, steps) in enumerate(checked):
        for step in steps:
            walk.append((place, offsets[number] + step[1], step[2], step[3], step[4]))
            place = offsets[number] + step[1]
        place = offsets[-1] + len(begins) + l
        if index + 1 < len(checked):
            after, door, _, _ = checked[index + 1]
            place = offsets[after] + found[after].ins()[door]
        walk[-1] = (walk[-1][0], place, walk[-1][2], walk[-1][3], walk[-1][4])
    return walk


def leaving_links(links):
    """The pairs (other, door) to which links lead, with the out doors, by the parts that they leave."""
    found = {}
    for number, out, other, door in links:
        found.setdefault(number, []).append((out, other, door))
    return found


def stands_behind(parts, offsets, known, links, stand, step):
    """The stands behind a step of the whole, each with the out door by which one left, None if one did not.

    A stand is a triple (part, i, place): the part in which one is, the in door by which one came, and where one is.
    """
    number, i, place = stand
    _, end, amounts, ticks, change = step
    found = {}
    inner = end - offsets[number]
    if (place, inner, amounts, ticks, change) in known[number]:
        found[(number, i, inner)] = None
    for out, other, door in links.get(number, []):
        there = parts[other].ins()[door]
        leaves = (place, parts[number].outs()[out], amounts, ticks, change) in known[number]
        if leaves and offsets[other] + there == end:
            found.setdefault((other, door, there), out)
    return found


def pieces_back(parts, layers, walk, stand, out):
    """The pieces of a walk that ends at a stand, by an out door; layers lead from stands to how one came there."""
    found = []
    steps = []
    for k in reversed(range(len(walk))):
        number, i, place = stand
        other = parts[number].outs()[out] if not steps else steps[-1][0]
        steps.append((place, other, walk[k][2], walk[k][3], walk[k][4]))
        before, left = layers[k][stand]
        if before is None or left is not None:
            found.append((number, i, out, list(reversed(steps))))
            steps = []
            out = left
        stand = before
    return list(reversed(found))


def last_stand(parts, known, layer, ends, step):
    """A stand from which a step leads out of the whole, and the out door of the part by which it does."""
    for number, i, place in layer:
        for other, out in ends:
            if other == number and (place, parts[number].outs()[out], step[2], step[3], step[4]) in known[number]:
                return (number, i, place), out
    return None


def checked_pass(whole, walk):
    """A pass of the whole, from any in door to any out door, as a list of steps of tuples."""
    steps = read_walk(whole.web(), walk)
    if not steps or steps[0][0] not in whole.ins() or steps[-1][1] not in whole.outs():
        raise BadWalk(walk)
    return steps


def pieces_of(parts, links, ins, outs, walk):
    """Pieces whose pass_of is a pass of the whole."""
    found, read, begins, ends = net_of(parts, links, ins, outs)
    whole = whole_of(found, read, begins, ends)
    steps = checked_pass(whole, walk)
    offsets = offsets_of(found)
    known = [{step: True for step in part.web().steps()} for part in found]
    ahead = leaving_links(read)
    k = whole.ins().index(steps[0][0])
    # Each layer leads from the stands ahead of a step to pairs: the stand before, the out door by which one left it.
    layers = [{(number, i, found[number].ins()[i]): (None, None) for number, i in begins[k]}]
    for step in steps[:-1]:
        layer = {}
        for stand in layers[-1]:
            for after, left in stands_behind(found, offsets, known, ahead, stand, step).items():
                layer.setdefault(after, (stand, left))
        layers.append(layer)
    ends_here = ends[whole.outs().index(steps[-1][1])]
    stand, out = last_stand(found, known, layers[-1], ends_here, steps[-1])
    return pieces_back(found, layers, steps, stand, out)

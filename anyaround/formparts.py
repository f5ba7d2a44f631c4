"""What is a form, and the part of a form."""

from anyaround.checks import is_integers, is_list, is_number, undivided
from anyaround.errors import BadForm
from anyaround.forms import doors_of, passes_of
from anyaround.fronts import hull_of
from anyaround.hulls import alone
from anyaround.parts import Part
from anyaround.passes import counting
from anyaround.surroundings import check_kind


def read_tuples(thing, width):
    """A list of tuples of so many integers, None for what is none."""
    if not is_list(thing) or not all([is_integers(one, width) for one in thing]):
        return None
    return [tuple(one) for one in thing]


def read_rows(thing):
    """A list of triples of integers, the third one from 1 on, None for what is none."""
    rows = read_tuples(thing, 3)
    if rows is None or any([row[2] < 1 for row in rows]):
        return None
    return rows


def read_best(thing):
    """Rows as a form has them, None for what is none."""
    rows = read_rows(thing)
    # Rows that have a common divisor can be alone, too, so this is looked for first.
    if rows is None or any([undivided(row) != row for row in rows]):
        return None
    return rows if alone(rows) == rows else None


def read_stairs(thing):
    """Stairs, None for what is none."""
    if not is_list(thing):
        return None
    found = []
    for one in thing:
        if not is_list(one) or len(one) != 2 or not is_number(one[0]):
            return None
        need, gain = one
        if gain is not None and (not is_integers([gain], 1) or need + gain < 0):
            return None
        # Behind an endless gain nothing stands.
        if found and (need <= found[-1][0] or found[-1][1] is None or (gain is not None and gain <= found[-1][1])):
            return None
        found.append((need, gain))
    return found


def read_pairs_down(thing):
    """Pairs of numbers of which the first ones rise and the second ones fall, None for what is none."""
    pairs = read_tuples(thing, 2)
    if pairs is None or any([min(pair) < 0 for pair in pairs]):
        return None
    for k in range(len(pairs) - 1):
        if pairs[k + 1][0] <= pairs[k][0] or pairs[k + 1][1] >= pairs[k][1]:
            return None
    return pairs


def read_counting(rows, thing):
    """Pass rows that count where these are the rows, None for what is none."""
    points = read_rows(thing)
    if points is None or counting(points, rows) != points:
        return None
    return points


def read_below(stay, thing):
    """Stairs without an endless gain, and with needs below stay, None for what is none."""
    pairs = read_stairs(thing)
    if pairs is None or any([gain is None or (stay is not None and need >= stay) for need, gain in pairs]):
        return None
    return pairs


def read_pass(kind, first, thing):
    """What a form has of the passes between two doors, None for what is none; first is what stands beside them."""
    if kind == "rates":
        return read_counting(first, thing)
    if kind == "on":
        return read_below(first, thing)
    if kind == "through":
        return read_stairs(thing)
    pairs = read_pairs_down(thing)
    if kind == "prices" and pairs is not None and hull_of(pairs) != pairs:
        return None
    return pairs


def read_passes(kind, first, thing):
    """What a form has of the passes from an in door, None for what is none."""
    if not is_list(thing) or not thing:
        return None
    found = [read_pass(kind, first, one) for one in thing]
    return None if any([one is None for one in found]) else found


def read_door(kind, thing):
    """What a form has of an in door, None for what is none."""
    if kind not in ("rates", "on"):
        return read_passes(kind, None, thing)
    if not is_list(thing) or len(thing) != 2:
        return None
    first = thing[0]
    if kind == "rates":
        first = read_best(first)
        if first is None:
            return None
    elif first is not None and not is_number(first):
        return None
    passes = read_passes(kind, first, thing[1])
    return None if passes is None else (first, passes)


def read_form(thing, kind):
    """A form of a kind, of new lists and tuples; None for what is none."""
    if not is_list(thing) or not thing:
        return None
    found = [read_door(kind, one) for one in thing]
    if any([one is None for one in found]):
        return None
    many = len(passes_of(found, kind, 0))
    if any([len(passes_of(found, kind, i)) != many for i in range(len(found))]):
        return None
    return found


def checked_form(thing, kind):
    """A form of a kind, of new lists and tuples."""
    found = read_form(thing, kind)
    if found is None:
        raise BadForm(thing)
    return found


def is_form(thing, kind):
    """Whether any object is the form, by a kind, of some part."""
    check_kind(kind)
    return read_form(thing, kind) is not None


def plain(one, other, change):
    """A step that costs nothing."""
    return one, other, (0, 0), 1, change


def stay_steps(first, kind, place, further):
    """The steps by which one stays, by way of a further place; first is what a form has of an in door for this."""
    if kind == "rates" and first:
        loops = [(further, further, (row[0], row[1]), row[2], 0) for row in first]
        return [plain(place, further, 0)] + loops
    if kind == "on" and first is not None:
        return [plain(place, further, 0 - first), plain(further, further, 0)]
    return []


def climb_steps(place, further, end, pair):
    """The steps by which one comes from a place to an end as a pair of stairs tells, by way of a further place."""
    need, gain = pair
    if gain is None:
        return [plain(place, further, 0 - need), plain(further, end, 0), plain(further, further, 1)]
    return [plain(place, further, 0 - need), plain(further, end, need + gain)]


def pass_step(kind, place, end, row):
    """The step that is a pass with a row, or with a pair of amounts."""
    return place, end, (row[0], row[1]), row[2] if kind == "rates" else 1, 0


def part_of(form, kind):
    """The part of a form that was read."""
    ins, outs = doors_of(form, kind)
    steps = []
    further = ins + outs
    for i in range(ins):
        first = form[i][0] if kind in ("rates", "on") else None
        staying = stay_steps(first, kind, i, further)
        steps.extend(staying)
        further = further + (1 if staying else 0)
        for j, found in enumerate(passes_of(form, kind, i)):
            for one in found:
                if kind in ("through", "on"):
                    steps.extend(climb_steps(i, further, ins + j, one))
                    further = further + 1
                else:
                    steps.append(pass_step(kind, i, ins + j, one))
    return Part(further, steps, list(range(ins)), list(range(ins, ins + outs)))


def the_part(form, kind):
    """The part of a form, of which nothing can be left out."""
    check_kind(kind)
    return part_of(checked_form(form, kind), kind)

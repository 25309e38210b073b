"""How two ends are reduced to one wire by rows and sides, or a bridge that bars it."""

from risenets.base.checks import ascends, is_index, is_row, is_same, is_tuple_of
from risenets.ends.seen import check_ends
from risenets.errors import InvalidOperation
from risenets.net.nets import ends_of, step_goal, step_start
from risenets.net.shapes import are_hub_ways, leanest, ways_of_hubs, steps_at, wires_between
from risenets.rise.joins import are_apart, side_by_side, transposed_form, turned_form, within_limits


def between(net, start, goal):
    """The wires between the ends."""
    check_ends(net, start, goal)
    return tuple(inner_wires(net, start, goal))


def recipe_or_bridge(net, start, goal):
    """A recipe of the ends, a bridge, or ("none",) if no wire stands between them."""
    check_ends(net, start, goal)
    parts = reduced(net, start, goal)
    if not parts:
        return ("none",)
    if len(parts) > 1:
        return some_bridge(net, start, goal)
    first, _, recipe = parts[0]
    return ("recipe", recipe if first == start else turned_recipe(recipe))


def is_recipe(net, start, goal, value):
    """Whether the value is a recipe of the ends."""
    check_ends(net, start, goal)
    return is_right_recipe(net, start, goal, value)


def is_bridge(net, start, goal, value):
    """Whether the value is a bridge."""
    check_ends(net, start, goal)
    if not is_tuple_of(value, 3) or value[0] != "bridge":
        return False
    _, hubs, ways = value
    if not is_tuple_of(hubs, 4) or not all([is_index(knot, net.knots) for knot in hubs]) or not ascends(hubs):
        return False
    return are_hub_ways(ends_with_end_wire(net, start, goal), hubs, pairs_of(hubs), ways)


def joined(net, start, goal):
    """How many knots and wires are left of those between the ends if rows and sides are joined."""
    check_ends(net, start, goal)
    parts = reduced(net, start, goal)
    return (len(set([start, goal] + [part[0] for part in parts] + [part[1] for part in parts])), len(parts))


def recipe_rise(net, start, goal, recipe):
    """The rise that is reckoned along a recipe, or a part of it whose own two parts are apart."""
    check_recipe(net, start, goal, recipe)
    parts = parts_of(net, recipe)
    rises = rises_of(net, parts)
    apart = parts_apart(parts, rises)
    if apart:
        return ("apart", apart[0])
    return ("rise", within_limits(rises[0]))


def is_apart(net, start, goal, recipe, value):
    """Whether the value is a part of the recipe whose own two parts are apart."""
    check_recipe(net, start, goal, recipe)
    parts = parts_of(net, recipe)
    return any([is_same(value, part) for part in parts_apart(parts, rises_of(net, parts))])


def check_recipe(net, start, goal, value):
    """Refuse what is no recipe of the ends."""
    check_ends(net, start, goal)
    if not is_right_recipe(net, start, goal, value):
        raise InvalidOperation("not a recipe of the ends")


def inner_wires(net, start, goal):
    """The wires between the ends."""
    return wires_between(net.knots, dict(enumerate(ends_of(net))), start, goal)


def pairs_of(hubs):
    """All pairs of hubs, in their sequence."""
    return [(hubs[i], hubs[j]) for i in range(len(hubs)) for j in range(i + 1, len(hubs))]


# Parts that are joined are triples (first knot, second knot, recipe from the first to the second one).


def reduced(net, start, goal):
    """The parts that are left of the wires between the ends if rows and sides are joined."""
    parts = [(*net.wires[wire][:2], ("wire", wire, 1)) for wire in inner_wires(net, start, goal)]
    pair = pair_to_join(parts, start, goal)
    while pair is not None:
        one, other = pair
        parts = [part for k, part in enumerate(parts) if k not in pair] + [joined_parts(parts[one], parts[other])]
        pair = pair_to_join(parts, start, goal)
    return parts


def pair_to_join(parts, start, goal):
    """The indices of two parts side by side, or in a row at a knot but the ends, None if there are none."""
    many = [knot for part in parts for knot in part[:2]]
    for i, j in pairs_of(list(range(len(parts)))):
        shared = [knot for knot in parts[i][:2] if knot in parts[j][:2]]
        if len(shared) == 2:
            return (i, j)
        if len(shared) == 1 and shared[0] not in (start, goal) and many.count(shared[0]) == 2:
            return (i, j)
    return None


def joined_parts(one, other):
    """Two parts joined to one, side by side if they can be."""
    if sorted(one[:2]) == sorted(other[:2]):
        return (one[0], one[1], ("side", one[2], led_from(other, one[0])[2]))
    shared = [knot for knot in one[:2] if knot in other[:2]][0]
    back, there = led_from(one, shared), led_from(other, shared)
    return (back[1], there[1], ("row", turned_recipe(back[2]), there[2]))


def led_from(part, knot):
    """The part, told from this one of its knots."""
    first, second, recipe = part
    return part if first == knot else (second, first, turned_recipe(recipe))


def turned_recipe(recipe):
    """The recipe from the second knot to the first one."""
    word, one, other = recipe
    if word == "wire":
        return (word, one, -other)
    if word == "row":
        return (word, turned_recipe(other), turned_recipe(one))
    return (word, turned_recipe(one), turned_recipe(other))


def ends_with_end_wire(net, start, goal):
    """The ends of the wires between the ends, and of the end wire."""
    ends = {wire: net.wires[wire][:2] for wire in inner_wires(net, start, goal)}
    ends[len(net)] = (start, goal)
    return ends


def some_bridge(net, start, goal):
    """A bridge, where there is one."""
    hubs, ways = ways_of_hubs(leanest(ends_with_end_wire(net, start, goal), has_bridge))
    return ("bridge", tuple(hubs), tuple([ways[pair] for pair in pairs_of(hubs)]))


def has_bridge(ends):
    """Whether some four knots are joined two by two, by ways apart from one another.

    If not, some knot has at most two knots beside it: where these are joined, it can be left out.
    """
    beside = {knot: {} for knot in steps_at(ends)}
    for tail, head in ends.values():
        beside[tail][head] = beside[head][tail] = True
    while beside:
        few = [knot for knot in beside if len(beside[knot]) <= 2]
        if not few:
            return True
        near = list(beside.pop(few[0]))
        for knot in near:
            del beside[knot][few[0]]
        if len(near) == 2:
            beside[near[0]][near[1]] = beside[near[1]][near[0]] = True
    return False


# The parts of a recipe are told by a list in which each one stands ahead of its own two.


def parts_of(net, value):
    """The parts of what has the form of a recipe, with the places of their own two; None if it has not.

    Each one is a pair (part, places), places being None for a wire.
    """
    parts, at = [(value, None)], 0
    while at < len(parts):
        part = parts[at][0]
        if not is_tuple_of(part, 3) or len(parts) > 2 * len(net):
            return None
        if part[0] in ("row", "side"):
            parts[at] = (part, (len(parts), len(parts) + 1))
            parts.extend([(own, None) for own in part[1:]])
        elif part[0] != "wire" or not is_row(part[1:], 2) or not is_index(part[1], len(net)) or part[2] not in (1, -1):
            return None
        at += 1
    return parts


def is_right_recipe(net, start, goal, value):
    """Whether the value is a recipe of the ends."""
    parts = parts_of(net, value)
    if parts is None:
        return False
    wires = [part[1] for part, places in parts if places is None]
    return sorted(wires) == inner_wires(net, start, goal) and ends_of_parts(net, parts)[0][:2] == (start, goal)


def ends_of_parts(net, parts):
    """For each part its first and its second knot, and all of its knots; three times None if it is no recipe."""
    found = [(None, None, None)] * len(parts)
    for at in reversed(range(len(parts))):
        part, places = parts[at]
        if places is None:
            knots = [step_start(net, part[1:]), step_goal(net, part[1:])]
            found[at] = (*knots, knots)
        else:
            found[at] = ends_of_both(part[0], found[places[0]], found[places[1]])
    return found


def ends_of_both(word, one, other):
    """What two parts are together, in a row or side by side."""
    first, third, knots = one
    begin, second, others = other
    if first is None or begin is None:
        return (None, None, None)
    shared = sorted([knot for knot in knots if knot in others])
    if word == "row" and third == begin and shared == [third]:
        return (first, second, knots + [knot for knot in others if knot != third])
    if word == "side" and first == begin and third == second and shared == sorted([first, third]):
        return (first, third, knots + [knot for knot in others if knot not in shared])
    return (None, None, None)


def rises_of(net, parts):
    """The rises of all parts, of any size, None for each one within which two are apart."""
    rises = [None] * len(parts)
    for at in reversed(range(len(parts))):
        part, places = parts[at]
        if places is None:
            rise = net.wires[part[1]][2]
            rises[at] = rise if part[2] == 1 else turned_form(rise)
        else:
            rises[at] = rise_of_both(part[0], rises[places[0]], rises[places[1]])
    return rises


def rise_of_both(word, one, other):
    """Two rises in a row or side by side, None if there is no such rise."""
    if one is None or other is None:
        return None
    if word == "row":
        rise = rise_of_both("side", transposed_form(one), transposed_form(other))
        return None if rise is None else transposed_form(rise)
    return None if are_apart(one, other, "tensions") else side_by_side(one, other)


def parts_apart(parts, rises):
    """The parts that have no rise, though their own two have."""
    return [part for at, (part, places) in enumerate(parts)
            if rises[at] is None and rises[places[0]] is not None and rises[places[1]] is not None]

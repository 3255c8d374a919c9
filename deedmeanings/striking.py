"""Striking out places of machines, one by one, until one text is left that tells the rows.

Between places there are PARTS: pairs of a rank and a text. The rank tells how the text may stand beside
others without parentheses. The order in which places are struck out is looked for with lengths alone.

No function here changes what it is passed.
"""

from deedmeanings.charts import machine_of
from deedmeanings.machines import backwards, come_masks, edges_of, every_truths, trimmed
from deedmeanings.names import members
from deedmeanings.signs import say_text

# Where rows begin, ahead of place 0, and where they end.
START = -1
END = -2

ALONE = 0
SEQUENCE = 1
CHOICE = 2
SKIP = (0, "[1]")
# So long are the signs and parentheses, about, that come by joining two texts.
SIGNS = 5
# Where a text is longer than that, another way is looked for.
LONG = 20000
FEW_PLACES = 40


class Plan:
    """The parts of a machine, an order in which to strike out its places, and how long the text then is, about."""

    def __init__(self, book, machine):
        self.parts = parts_of(book, machine)
        order, length = order_of(self.parts, len(machine.finals))
        self.order = order
        self.text_length = length


def flow_text(flow):
    """A text that tells the rows of a flow."""
    best = Plan(flow.book, flow.machine())
    if len(flow.chart().finals) <= FEW_PLACES:
        best = shorter_plan(best, Plan(flow.book, machine_of(flow.chart())))
    if best.text_length > LONG:
        # What looks far back has many places, but few of them if it is read backwards.
        machine = trimmed(backwards(flow.turned().machine()), flow.book.steps())
        best = shorter_plan(best, Plan(flow.book, machine))
    parts = best.parts
    for place in best.order:
        parts = struck_out(parts, place)
    return parts[(START, END)][1] if (START, END) in parts else "[0]"


def shorter_plan(one, other):
    """The one of two plans whose text is shorter."""
    return other if other.text_length < one.text_length else one


def parts_of(book, machine):
    """The dict from pairs of places between which a machine goes on to parts."""
    ways = ways_of(book, machine)
    # The text of a say takes time, and the same masks come again and again.
    texts = {}
    for _, _, come, mask in ways:
        for some in gates_of(book, come, mask):
            if some not in texts:
                texts[some] = say_text(book.where(some))
    parts = {(START, 0): SKIP}
    for key, part, come, mask in ways:
        gates = [texts[some] for some in gates_of(book, come, mask)]
        told = gated_part(gates, part) if come & ~mask else part
        parts[key] = either_part(parts.get(key), told)
    return parts


def ways_of(book, machine):
    """The list of all ways by which a machine goes on or ends.

    A way is told by the pair of its places, the part for its deed, the mask of the truths that may come to
    where it begins, and the mask of the truths with which it is gone.
    """
    edges = edges_of(machine, book.steps())
    come = come_masks(every_truths(machine), edges)
    ways = []
    for place, mask in enumerate(machine.finals):
        masks = {}
        for symbol, bit, _, targets in edges[place]:
            for target in targets:
                key = (target, symbol % machine.width)
                masks[key] = masks.get(key, 0) | bit
        for target, deed in masks:
            ways.append(((place, target), (ALONE, book.deeds()[deed]), come[place], masks[(target, deed)]))
        if mask:
            ways.append(((place, END), SKIP, come[place], mask))
    return ways


def gates_of(book, come, mask):
    """The masks of which one has to be asked for; none has, if all truths that come are in the mask.

    Only truths that come need be told apart.
    """
    everything = (1 << len(book.truths())) - 1
    return [mask, mask | everything & ~come] if come & ~mask else []


def gated_part(texts, part):
    """A part ahead of which the shorter one of two says, told by their texts, is asked for."""
    text = texts[0] if len(texts[0]) <= len(texts[1]) else texts[1]
    return joined_part((ALONE, "[" + text + "]"), part)


def either_part(one, other):
    """A part that tells what one of two parts tells; None tells nothing."""
    if one is None or one == other:
        return other
    return (CHOICE, one[1] + " + " + other[1])


def joined_part(one, other):
    """A part that tells what two parts tell one behind another."""
    if SKIP in (one, other):
        return other if one == SKIP else one
    return (SEQUENCE, beside(one, SEQUENCE) + " ; " + beside(other, SEQUENCE))


def often_part(part):
    """A part that tells what a part tells any number of times."""
    return (ALONE, beside(part, ALONE) + "*")


def beside(part, most):
    """The text of a part, in parentheses if its rank is more than the most that may do without."""
    rank, text = part
    return text if rank <= most else "(" + text + ")"


def struck_out(parts, place):
    """The parts that tell the same without a place."""
    kept = dict([(key, parts[key]) for key in parts if place not in key])
    loop = parts.get((place, place))
    behind = [(target, parts[(first, target)]) for first, target in parts if first == place and target != place]
    for source, last in parts:
        if last == place and source != place:
            ahead = parts[(source, last)]
            ahead = ahead if loop is None else joined_part(ahead, often_part(loop))
            for target, part in behind:
                told = joined_part(ahead, part)
                kept[(source, target)] = either_part(kept.get((source, target)), told)
    return kept


def order_of(parts, count):
    """A pair: an order in which to strike out so many places, and the length, about, of the text then."""
    lengths = {key: len(parts[key][1]) for key in parts}
    order = []
    waiting = list(range(count))
    for _ in range(count):
        place = cheapest(lengths, waiting)
        order.append(place)
        waiting.remove(place)
        lengths = struck_lengths(lengths, place)
    return order, lengths.get((START, END), 0)


def cheapest(lengths, waiting):
    """The place, of those that wait, by whose striking out the least is added to the lengths."""
    many = max([int(place) for place in waiting]) + 1
    came = [0 for _ in range(many + 2)]
    gone = [0 for _ in range(many + 2)]
    into = [0 for _ in range(many + 2)]
    onward = [0 for _ in range(many + 2)]
    # START and END are found at the end of the lists.
    for source, target in lengths:
        if source != target:
            came[target] = came[target] + 1
            gone[source] = gone[source] + 1
            into[target] = into[target] + lengths[(source, target)]
            onward[source] = onward[source] + lengths[(source, target)]
    costs = []
    for place in waiting:
        loop = lengths.get((place, place), 0)
        cost = into[place] * (gone[place] - 1) + onward[place] * (came[place] - 1)
        cost = cost + (loop + SIGNS) * came[place] * gone[place] - loop
        costs.append(cost * many + place)
    return min([int(cost) for cost in costs]) % many


def struck_lengths(lengths, place):
    """The lengths of the parts that tell the same without a place."""
    kept = dict([(key, lengths[key]) for key in lengths if place not in key])
    loop = lengths.get((place, place), 0)
    behind = [(target, lengths[(first, target)]) for first, target in lengths if first == place != target]
    for source, last in lengths:
        if last == place != source:
            ahead = lengths[(source, last)] + loop + SIGNS
            for target, length in behind:
                kept[(source, target)] = kept.get((source, target), 0) + ahead + length
    return kept

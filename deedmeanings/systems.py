"""Systems of equations between flows, and their solutions."""

from deedmeanings.errors import BadEquation, NoName
from deedmeanings.flows import Flow
from deedmeanings.names import ascending, is_list, is_name
from deedmeanings.solving import solved

MOST_NAMES = 4


class System:
    """A book and equations: for each name what its flow is made of."""

    def __init__(self, book, equations):
        check_equations(book, equations)
        self.book = book
        self._names = ascending(list(equations))
        self._equations = {name: [(flow, target) for flow, target in equations[name]] for name in self._names}

    def unknowns(self):
        """The ascending list of the names."""
        return list(self._names)

    def solves(self, thing):
        """Whether any object is a solution."""
        if not isinstance(thing, dict) or len(thing) != len(self._names):
            return False
        if not all([name in thing and is_flow_of(self.book, thing[name]) for name in self._names]):
            return False
        return all([self.put_together(name, thing) == thing[name] for name in self._names])

    def least(self, name):
        """The flow of a name in the solution that lies within all others."""
        self.check_name(name)
        return Flow(self.book, solved(self.summands(), name, self.book, False))

    def greatest(self, name):
        """The flow of a name in the solution that lies around all others."""
        self.check_name(name)
        return Flow(self.book, solved(self.summands(), name, self.book, True))

    def is_one(self):
        """Whether there is just one solution."""
        return all([self.least(name) == self.greatest(name) for name in self._names])

    def put_together(self, name, flows):
        """What all summands of a name have together, with flows for the names."""
        found = Flow.stop(self.book)
        for flow, target in self._equations[name]:
            found = found | (flow if target is None else flow >> flows[target])
        return found

    def summands(self):
        """The list of all summands as triples of a name, a machine, and the name behind it or None."""
        return [(name, flow.machine(), target) for name in self._names for flow, target in self._equations[name]]

    def check_name(self, thing):
        """Raises NoName for any object that is none of the names."""
        if not isinstance(thing, str) or thing not in self._names:
            raise NoName(thing)


def is_flow_of(book, thing):
    """Whether any object is a flow of a book."""
    return isinstance(thing, Flow) and thing.book == book


def check_equations(book, equations):
    """Raises BadEquation if something is no dict from a few names to lists of summands."""
    if not isinstance(equations, dict) or not 1 <= len(equations) <= MOST_NAMES:
        raise BadEquation(None)
    for key in equations:
        if not is_name(key):
            raise BadEquation(key)
    for name in ascending(list(equations)):
        summands = equations[name]
        if not is_list(summands) or not all([is_summand(book, equations, one) for one in summands]):
            raise BadEquation(name)


def is_summand(book, equations, thing):
    """Whether any object is a pair of a flow of a book and one of the names, or None."""
    if not is_list(thing) or len(thing) != 2:
        return False
    flow, target = thing
    return is_flow_of(book, flow) and (target is None or isinstance(target, str) and target in equations)

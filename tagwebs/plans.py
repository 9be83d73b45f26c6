"""Plans: where the seekers go, by what they are told."""

from tagwebs.errors import BadPlan, UnknownName
from tagwebs.names import is_name


class Plan:
    """States with rules: each tells for what is told where to go and which state follows."""

    def __init__(self, opening, states):
        if not are_names(opening):
            raise BadPlan("opening", 0)
        if not 1 <= len(states) <= 40:
            raise BadPlan("states", 0)
        check_states(states)
        self.opening = tuple(sorted(opening))
        self.states = tuple([(name, tuple([ordered(rule) for rule in rules])) for name, rules in states])
        if len(set(all_names(self.opening, self.states))) > 8:
            raise BadPlan("names", 0)

    def __len__(self):
        return len(self.states)

    def __eq__(self, other):
        return isinstance(other, Plan) and self.opening == other.opening and self.states == other.states

    def __call__(self, state, told):
        """The action and the state that follow when this is told in a state."""
        found = [rules for name, rules in self.states if name == state]
        if not found:
            raise UnknownName(state)
        for tells, action, then in found[0]:
            if fits(tells, told):
                return (action, then)
        return (None, state)

    @property
    def start(self):
        """The name of the first state."""
        return self.states[0][0]


def are_names(names):
    """True if these are at most 8 names."""
    return len(names) <= 8 and all([is_name(name) for name in names])


def check_states(states):
    """Raise BadPlan for the first state that is not as it must be."""
    names = [state[0] for state in states]
    for at, (name, rules) in enumerate(states):
        if not is_name(name) or name in names[:at] or len(rules) > 10:
            raise BadPlan("state", at)
        if not all([is_rule(rule, names) for rule in rules]):
            raise BadPlan("state", at)


def is_rule(rule, states):
    """True if the tuple is a rule, in a plan with states of these names."""
    if len(rule) != 3:
        return False
    tells, action, then = rule
    if not is_name(then) or then not in states:
        return False
    return are_tells(tells) and (action is None or are_names(action))


def are_tells(tells):
    """True if these are different names of places, or the word for no telling or for every other one."""
    if isinstance(tells, str):
        return tells in ("none", "else")
    return len(tells) > 0 and len(set(tells)) == len(tells) and all([is_name(name) for name in tells])


def ordered(rule):
    """The rule with all names in ascending order, as tuples."""
    tells, action, then = rule
    if not isinstance(tells, str):
        tells = tuple(sorted(tells))
    return (tells, None if action is None else tuple(sorted(action)), then)


def all_names(opening, states):
    """The list of the names of places in the opening, in all tells and in all actions."""
    found = list(opening)
    for _, rules in states:
        for tells, action, _ in rules:
            if not isinstance(tells, str):
                found.extend(tells)
            if action is not None:
                found.extend(action)
    return found


def fits(tells, told):
    """True if a rule with these tells fits what is told, a name or None."""
    if tells == "none":
        return told is None
    return tells == "else" or told in tells

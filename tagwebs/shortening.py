"""Plans that act alike, and the shortest one of them."""

from tagwebs.names import numbered_name
from tagwebs.plans import Plan


def shortened(plan):
    """The plan in its one form: with one state for each class of states that act alike and to which it can come."""
    tellings = tellings_of([plan])
    kinds = kinds_of(plan, tellings)
    found = first_of_kinds(plan, tellings, kinds)
    names = {kinds[state]: numbered_name(at) for at, state in enumerate(found)}
    states = []
    for state in found:
        replies = {}
        for told in tellings:
            action, then = plan(state, told)
            replies[told] = (action, names[kinds[then]])
        states.append((names[kinds[state]], short_rules(names[kinds[state]], tellings, replies)))
    return Plan(plan.opening, states)


def tellings_of(plans):
    """The list of a name that no tells of the plans have, None, and the names in tells in ascending order.

    All other names are answered as the first one is.
    """
    names = sorted(set([name for plan in plans for name in told_names(plan)]))
    at = 0
    while numbered_name(at) in names:
        at += 1
    return [numbered_name(at), None, *names]


def told_names(plan):
    """The list of the names in tells of the plan."""
    found = []
    for _, rules in plan.states:
        for rule in rules:
            if not isinstance(rule[0], str):
                found.extend(rule[0])
    return found


def kinds_of(plan, tellings):
    """A dict of numbers by the names of the states: those that act alike have the same one."""
    kinds = {name: 0 for name, rules in plan.states}
    count = 0
    while how_many(kinds) > count:
        count = how_many(kinds)
        kinds = finer_kinds(plan, tellings, kinds)
    return kinds


def how_many(kinds):
    """The number of the different kinds."""
    return len(set(list(kinds.values())))


def finer_kinds(plan, tellings, kinds):
    """Finer kinds: states keep the same one only if for each telling the actions and the next kinds are the same."""
    numbers = {}
    finer = {}
    for state, kind in kinds.items():
        replies = [plan(state, told) for told in tellings]
        mark = (kind, *[(action, kinds[then]) for action, then in replies])
        finer[state] = numbers.setdefault(mark, len(numbers))
    return finer


def first_of_kinds(plan, tellings, kinds):
    """The list of one state of each kind to which the plan can come, in the order in which they are found."""
    found = [plan.start]
    seen = {kinds[plan.start]: True}
    at = 0
    while at < len(found):
        for told in tellings:
            _, then = plan(found[at], told)
            if kinds[then] not in seen:
                seen[kinds[then]] = True
                found.append(then)
        at += 1
    return found


def short_rules(state, tellings, replies):
    """The rules of a state, which has this name, in the one form."""
    other = replies[tellings[0]]
    groups = {}
    for name in tellings[2:]:
        if replies[name] != other:
            groups.setdefault(replies[name], []).append(name)
    rules = [(tuple(names), *pair) for pair, names in groups.items()]
    if replies[None] != other:
        rules.append(("none", *replies[None]))
    if other != (None, state):
        rules.append(("else", *other))
    return rules


def alike(first, second):
    """None if the two plans act alike, otherwise a shortest list of tellings at whose end their actions differ."""
    if first.opening != second.opening:
        return []
    tellings = tellings_of([first, second])
    seen = {(first.start, second.start): True}
    # The lists are gone through in the order of their lengths, so that the first difference ends a shortest one.
    ahead = [(first.start, second.start, [])]
    at = 0
    while at < len(ahead):
        one, other, passed = ahead[at]
        for told in tellings:
            action, then = first(one, told)
            other_action, other_then = second(other, told)
            if action != other_action:
                return [*passed, told]
            if (then, other_then) not in seen:
                seen[(then, other_then)] = True
                ahead.append((then, other_then, [*passed, told]))
        at += 1
    return None

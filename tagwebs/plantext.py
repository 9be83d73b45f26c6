"""The written form of plans."""

from tagwebs.errors import BadLine
from tagwebs.names import is_name
from tagwebs.plans import Plan


def plan_text(plan):
    """The written form of a plan."""
    lines = [" ".join(["begin", *plan.opening])]
    for name, rules in plan.states:
        lines.append(f"state {name}")
        lines.extend([rule_line(rule) for rule in rules])
    return "\n".join(lines)


def rule_line(rule):
    """The line of a rule."""
    tells, action, then = rule
    words = [tells] if isinstance(tells, str) else ["told", *tells]
    move = ["stay"] if action is None else ["go", *action]
    return " ".join([*words, ":", *move, "then", then])


def read_plan(text):
    """The plan of which this is a written form."""
    lines = [line.split(" ") for line in text.split("\n")]
    if not is_line(lines[0], "begin"):
        raise BadLine(1)
    states = []
    for at in range(1, len(lines)):
        words = lines[at]
        if is_line(words, "state") and len(words) == 2:
            states.append((words[1], []))
            continue
        rule = read_rule(words)
        if rule is None or not states:
            raise BadLine(at + 1)
        states[-1][1].append(rule)
    if not states:
        raise BadLine(2)
    return Plan(lines[0][1:], states)


def is_line(words, first):
    """True if these words are a certain first one and names behind it."""
    return words[0] == first and all([is_name(word) for word in words[1:]])


def read_rule(words):
    """The rule of a line, or None if the line does not have the form of one."""
    if ":" not in words:
        return None
    middle = words.index(":")
    tells = read_tells(words[:middle])
    move = words[middle + 1:]
    # A name can be the word then, too, so the line is read from its end.
    if tells is None or len(move) < 3 or move[-2] != "then" or not is_name(move[-1]):
        return None
    if move[:-2] == ["stay"]:
        return (tells, None, move[-1])
    return (tells, tuple(move[1:-2]), move[-1]) if is_line(move[:-2], "go") else None


def read_tells(words):
    """The tells of the words before the colon, or None if these have not the form of tells."""
    if words in (["none"], ["else"]):
        return words[0]
    return tuple(words[1:]) if len(words) > 1 and is_line(words, "told") else None

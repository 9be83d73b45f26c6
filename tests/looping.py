"""Finds rows in which a loop or a comprehension changes what it goes over (rule L23 of LANGUAGE.md).

Two places, which are names, attributes and items, count as one as soon as one is assigned to the other anywhere in a
function, also in a row behind the loop: a loop around both may bring the row about before the change.
"""

import ast

CHANGING = set("append clear extend insert pop remove reverse setdefault update".split())
# What goes over the very things that it is passed, and makes no copy of them first.
THROUGH = ("enumerate", "zip", "reversed", "iter", "map")
VIEWS = ("items", "keys", "values")
LOOPS = (ast.For, ast.ListComp, ast.SetComp, ast.DictComp, ast.GeneratorExp)


def changed_in_loops(tree):
    """The ascending list of the lines at which something is changed in a loop that goes over it."""
    found = set()
    for function in ast.walk(tree):
        if isinstance(function, ast.FunctionDef):
            same = places_alike(function)
            for loop in ast.walk(function):
                if isinstance(loop, LOOPS):
                    gone_over = {other for place in gone_over_by(loop) for other in same.get(place, {place})}
                    found |= {line for line, places in changes(loop) if gone_over & places}
    return sorted(found)


def places_alike(function):
    """A dict that gives for each place that is assigned or read as a whole the set of the places that may be the same."""
    same = {}
    for node in ast.walk(function):
        for target, value in assigned(node):
            for place in places_of(target):
                for other in places_of(value):
                    both = same.get(place, {place}) | same.get(other, {other})
                    same.update({one: both for one in both})
    return same


def assigned(node):
    """The pairs of a target and its value in a statement; those of tuples are taken one by one."""
    if isinstance(node, ast.Assign):
        pairs = [(target, node.value) for target in node.targets]
    elif isinstance(node, (ast.AnnAssign, ast.NamedExpr)):
        pairs = [(node.target, node.value)]
    else:
        return []
    rows = (ast.Tuple, ast.List)
    while any(isinstance(target, rows) and isinstance(value, rows) for target, value in pairs):
        pairs = [pair for target, value in pairs for pair in taken_apart(target, value, rows)]
    return pairs


def taken_apart(target, value, rows):
    """The pairs of the parts of two tuples up to a star, or the pair itself where there is no second tuple."""
    if not (isinstance(target, rows) and isinstance(value, rows)):
        return [(target, value)]
    pairs = []
    for pair in zip(target.elts, value.elts):
        if any(isinstance(part, ast.Starred) for part in pair):
            break
        pairs.append(pair)
    return pairs


def places_of(value):
    """The set of the places that a value may be, as they are written: a choice may be each of its parts."""
    if isinstance(value, ast.IfExp):
        return places_of(value.body) | places_of(value.orelse)
    if isinstance(value, ast.BoolOp):
        return {place for part in value.values for place in places_of(part)}
    if isinstance(value, ast.NamedExpr):
        return places_of(value.target) | places_of(value.value)
    if isinstance(value, ast.Subscript) and isinstance(value.slice, ast.Slice):
        return set()
    if isinstance(value, (ast.Name, ast.Attribute, ast.Subscript)):
        return {ast.unparse(value)}
    return set()


def gone_over_by(loop):
    """The set of the places that a loop or a comprehension goes over."""
    heads = [loop.iter] if isinstance(loop, ast.For) else [part.iter for part in loop.generators]
    return {place for head in heads for place in gone_over_in(head)}


def gone_over_in(head):
    """The set of the places that stand in the head of a loop, not those of which a copy is made there."""
    if isinstance(head, ast.IfExp):
        return gone_over_in(head.body) | gone_over_in(head.orelse)
    if isinstance(head, ast.BoolOp):
        return {place for part in head.values for place in gone_over_in(part)}
    if isinstance(head, ast.Starred):
        return gone_over_in(head.value)
    if isinstance(head, ast.Call):
        if isinstance(head.func, ast.Name) and head.func.id in THROUGH:
            return {place for part in head.args for place in gone_over_in(part)}
        if isinstance(head.func, ast.Attribute) and head.func.attr in VIEWS:
            return gone_over_in(head.func.value)
    return places_of(head)


def changes(loop):
    """The list of the pairs of a line in the loop and the set of the places that are changed there."""
    found = []
    for node in ast.walk(loop):
        if isinstance(node, ast.Call) and isinstance(node.func, ast.Attribute) and node.func.attr in CHANGING:
            held = [node.func.value]
        elif isinstance(node, ast.Subscript) and not isinstance(node.ctx, ast.Load):
            held = [node.value]
        elif isinstance(node, ast.AugAssign):
            held = [node.target]
        else:
            continue
        found.append((node.lineno, {place for part in held for place in with_owners(part)}))
    return found


def with_owners(value):
    """The places that a value may be, and the objects whose attributes it is: a loop may go over such an object."""
    found = places_of(value)
    while isinstance(value, ast.Attribute):
        value = value.value
        found |= places_of(value)
    return found

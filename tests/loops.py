"""Finds what rule L23 bars: loops and comprehensions that change what they walk, by whatever name."""

import ast

LOOPS = (ast.For, ast.ListComp, ast.DictComp, ast.SetComp, ast.GeneratorExp)
WALKED_THROUGH = ("enumerate", "zip", "reversed", "iter", "map")
VIEWS = ("items", "keys", "values")
CHANGING = ("append", "appendleft", "extend", "extendleft", "insert", "remove", "pop", "popleft", "clear", "reverse",
            "sort", "update", "setdefault", "add", "discard", "rotate")


def loops_that_change_what_they_walk(tree):
    """The rows at which a loop of one of the functions of a file changes what it walks, ascending."""
    found = set()
    for function in ast.walk(tree):
        if isinstance(function, ast.FunctionDef):
            kin = _kin(function)
            for loop in ast.walk(function):
                if isinstance(loop, LOOPS):
                    found.update(_rows_of_changes(loop, kin))
    return sorted(found)


def _holders(node):
    """The names and fields that may hold the very value of an expression, not a copy of it."""
    if isinstance(node, (ast.Name, ast.Attribute)):
        return {ast.unparse(node)}
    if isinstance(node, (ast.Subscript, ast.Starred, ast.NamedExpr)):
        return _holders(node.value)
    if isinstance(node, ast.IfExp):
        return _holders(node.body) | _holders(node.orelse)
    if isinstance(node, ast.BoolOp):
        return set().union(*[_holders(value) for value in node.values])
    return set()


def _walked(node):
    """The names and fields that a loop over this expression walks."""
    if isinstance(node, ast.Call) and isinstance(node.func, ast.Name) and node.func.id in WALKED_THROUGH:
        return set().union(*[_walked(argument) for argument in node.args])
    if isinstance(node, ast.Call) and isinstance(node.func, ast.Attribute) and node.func.attr in VIEWS:
        return _walked(node.func.value)
    return _holders(node)


def _kin(function):
    """A list of sets of the names and fields of a function that some assignment makes names of one value."""
    groups = []
    for node in ast.walk(function):
        for target, value in _assigned(node):
            # `a, b = b, a` and the like: each target may get what stands at its place.
            pairs = [(target, value)]
            if isinstance(target, ast.Tuple) and isinstance(value, ast.Tuple):
                pairs = list(zip(target.elts, value.elts))
            for one, other in pairs:
                # What is put into a list is another value than the list.
                if not isinstance(one, ast.Subscript):
                    groups.append(_holders(one) | _holders(other))
    joined = []
    for group in groups:
        for other in [other for other in joined if other & group]:
            joined.remove(other)
            group = group | other
        joined.append(group)
    return joined


def _assigned(node):
    if isinstance(node, ast.Assign):
        return [(target, node.value) for target in node.targets]
    if isinstance(node, (ast.AnnAssign, ast.NamedExpr)) and node.value is not None:
        return [(node.target, node.value)]
    return []


def _rows_of_changes(loop, kin):
    """The rows in a loop that change what it walks."""
    walks = [loop.iter] if isinstance(loop, ast.For) else [part.iter for part in loop.generators]
    walked = set().union(*[_walked(walk) for walk in walks])
    for group in kin:
        if group & walked:
            walked |= group
    inside = loop.body if isinstance(loop, ast.For) else [loop]
    changes = [(node.lineno, name) for part in inside for node in ast.walk(part) for name in _changed(node)]
    return {row for row, name in changes if name in walked}


def _changed(node):
    """The names and fields whose value this one node changes."""
    if isinstance(node, ast.Call) and isinstance(node.func, ast.Attribute) and node.func.attr in CHANGING:
        return _holders(node.func.value)
    if isinstance(node, ast.Subscript) and isinstance(node.ctx, (ast.Store, ast.Del)):
        return _holders(node.value)
    if isinstance(node, ast.AugAssign):
        return _holders(node.target)
    return set()

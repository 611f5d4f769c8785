"""L19, L22 to L25, L28: how Python's own things are called, walked, taken and handed on."""

import ast

from checks.lists import (
    CALLED, CHANGING, ERRORS, KEYS, KEYWORDS, LONE_WALKERS, METHODS, WALKED, WALKED_METHODS, WALKERS,
)
from checks.trees import DEFS, inside


def check_calls(source, own_methods):
    rows = []
    for told in (kept_rows, isinstance_rows, walked_rows, changed_rows, set_rows, raise_rows, try_rows, special_rows):
        rows += told(source)
    return rows + keyword_rows(source) + method_rows(source, own_methods)


def kept_rows(source):
    rows = []
    for node in source.nodes(ast.Name):
        if not source.is_python(node, *CALLED) or source.in_annotation(node):
            continue
        above = source.parent(node)
        called = isinstance(above, ast.Call) and above.func is node
        as_key = isinstance(above, ast.keyword) and above.arg == "key" and node.id in KEYS
        if not called and not as_key and not beside_isinstance(source, node):
            rows.append((node.lineno, "L22", f"{node.id} is kept, not called"))
    return rows


def beside_isinstance(source, node):
    above = source.parent(node)
    if isinstance(above, ast.Tuple):
        node = above
        above = source.parent(above)
    return source.is_call(above, "isinstance") and len(above.args) == 2 and above.args[1] is node


def isinstance_rows(source):
    rows = []
    for node in source.nodes(ast.Call):
        if source.is_call(node, "isinstance"):
            kinds = node.args[1:]
            if len(kinds) == 1 and isinstance(kinds[0], ast.Tuple):
                kinds = kinds[0].elts
            if len(node.args) != 2 or not all(isinstance(one, ast.Name) for one in kinds):
                rows.append((node.lineno, "L22", "isinstance in another form"))
            elif any(source.is_python(one, "set", "frozenset", "range", "zip", "enumerate") for one in kinds):
                rows.append((node.lineno, "L22", "isinstance with a kind that is out"))
    return rows


def keyword_rows(source):
    rows = []
    for node in source.nodes(ast.Call):
        if isinstance(node.func, ast.Attribute):
            allowed = [] if node.func.attr in METHODS else None
        elif source.is_python(node.func, *(CALLED + ERRORS)):
            allowed = KEYWORDS.get(node.func.id, [])
        else:
            allowed = None
        for one in node.keywords:
            if allowed is not None and one.arg not in allowed:
                rows.append((node.lineno, "L22", f"the keyword {one.arg}"))
            elif allowed and one.arg in ("reverse", "strict") and not is_written_choice(one.value):
                rows.append((node.lineno, "L22", f"{one.arg} without a written True or False"))
    return rows


def is_written_choice(node):
    return isinstance(node, ast.Constant) and isinstance(node.value, bool)


def is_walk(source, node):
    if source.is_call(node, *WALKED):
        return True
    return isinstance(node, ast.Call) and isinstance(node.func, ast.Attribute) and node.func.attr in WALKED_METHODS


def walked_rows(source):
    rows = []
    for node in source.nodes(ast.Call):
        if is_walk(source, node) and not walked_at_once(source, node):
            rows.append((node.lineno, "L23", f"{ast.unparse(node)} is kept, not walked at once"))
    return rows


def walked_at_once(source, node):
    above = source.parent(node)
    if isinstance(above, (ast.For, ast.comprehension)):
        return above.iter is node
    if source.is_call(above, *LONE_WALKERS):
        return len(above.args) == 1
    if source.is_call(above, "zip"):
        return node in above.args
    if source.is_call(above, *WALKERS):
        return above.args[0] is node
    joins = isinstance(above, ast.Call) and isinstance(above.func, ast.Attribute) and above.func.attr == "join"
    return joins and isinstance(above.func.value, ast.Constant)


def changed_rows(source):
    rows = []
    for loop in source.nodes(ast.For):
        walked = walked_names(source, loop.iter)
        for node in [one for row in loop.body for one in ast.walk(row)]:
            if changed_name(node) in walked:
                rows.append((node.lineno, "L23", f"{changed_name(node)} is walked, and changed in the loop"))
    return rows


def walked_names(source, node):
    """What a loop walks, written out, itself or through enumerate, items and their like."""
    if isinstance(node, (ast.Name, ast.Attribute)):
        return [ast.unparse(node)]
    if source.is_call(node, "enumerate", "zip", "reversed"):
        return [name for one in node.args for name in walked_names(source, one)]
    if is_walk(source, node) and isinstance(node.func, ast.Attribute):
        return walked_names(source, node.func.value)
    return []


def changed_name(node):
    if isinstance(node, ast.Subscript) and isinstance(node.ctx, ast.Store):
        return ast.unparse(node.value)
    if isinstance(node, ast.Call) and isinstance(node.func, ast.Attribute) and node.func.attr in CHANGING:
        return ast.unparse(node.func.value)
    return None


def set_rows(source):
    rows = []
    for node in source.nodes(ast.Call, ast.Set):
        if not isinstance(node, ast.Set) and not source.is_call(node, "set", "frozenset"):
            continue
        above = source.parent(node)
        below = node
        while isinstance(above, ast.BinOp):
            below = above
            above = source.parent(above)
        if not set_may_stand(source, above, below):
            rows.append((node.lineno, "L24", "a set that is kept or walked"))
    return rows


def set_may_stand(source, above, node):
    if isinstance(above, ast.Compare):
        return all(isinstance(op, (ast.In, ast.NotIn, ast.Eq, ast.NotEq)) for op in above.ops)
    return source.is_call(above, "sorted", "len") and above.args == [node] and not above.keywords


def raise_rows(source):
    rows = []
    for node in source.nodes(ast.Raise):
        if not isinstance(node.exc, ast.Call) or not isinstance(node.exc.func, ast.Name):
            rows.append((node.lineno, "L19", "an error that is not made on the spot"))
        if node.cause is not None and not is_handlers_own(source, node):
            rows.append((node.lineno, "L19", "raise from something else than the handler's own or None"))
    return rows


def is_handlers_own(source, node):
    if isinstance(node.cause, ast.Constant):
        return node.cause.value is None
    handlers = [one for one in source.above(node) if isinstance(one, ast.ExceptHandler)]
    return bool(handlers) and isinstance(node.cause, ast.Name) and node.cause.id == handlers[0].name


FREE_ERRORS = ["KeyError", "ZeroDivisionError", "StopIteration"]
BOUND_ERRORS = ["ValueError", "LookupError", "IndexError"]


def try_rows(source):
    rows = []
    for node in source.nodes(ast.Try):
        for handler in node.handlers:
            kinds = handler.type.elts if isinstance(handler.type, ast.Tuple) else [handler.type]
            for kind in kinds:
                rows += [(handler.lineno, "L19", told) for told in handler_faults(source, node, kind)]
    return rows


def handler_faults(source, node, kind):
    if not isinstance(kind, ast.Name):
        return ["an except without a named error class"]
    if source.scope_of(kind) is not None or kind.id in FREE_ERRORS:
        return []
    if kind.id not in BOUND_ERRORS:
        return [f"except {kind.id}"]
    within = [one for row in node.body for one in ast.walk(row)]
    return [f"except {kind.id} round more than it may stand round"] if too_much(source, within, kind.id) else []


def too_much(source, within, kind):
    banned = (ast.Mult, ast.Pow, ast.Mod, ast.LShift, ast.RShift, ast.JoinedStr, ast.Slice, ast.Lambda)
    if any(isinstance(one, banned) for one in within):
        return True
    calls = [one for one in within if isinstance(one, ast.Call)]
    if kind == "IndexError":
        return bool(calls)
    return not all(call_for_value_error(source, one) for one in calls)


def call_for_value_error(source, node):
    by_method = isinstance(node.func, ast.Attribute) and node.func.attr in ("index", "remove")
    return by_method or source.is_call(node, "int", "str")


def method_rows(source, own_methods):
    rows = []
    for node in source.nodes(ast.Attribute):
        above = source.parent(node)
        called = isinstance(above, ast.Call) and above.func is node
        as_key = isinstance(above, ast.keyword) and above.arg == "key"
        if called and node.attr not in METHODS + own_methods + ["add", "discard", "__init__"]:
            rows.append((node.lineno, "L25", f"the method {node.attr}"))
        if node.attr in own_methods and isinstance(node.ctx, ast.Load) and not called and not as_key:
            rows.append((node.lineno, "L25", f"the method {node.attr} is handed on"))
    return rows


def special_rows(source):
    rows = []
    for node in source.nodes(ast.FunctionDef):
        if not isinstance(source.parent(node), ast.ClassDef):
            continue
        returns = [one for one in inside(node) if isinstance(one, ast.Return)]
        if node.name == "__init__":
            rows += [(one.lineno, "L28", "__init__ gives back something") for one in returns if one.value]
        if node.name in ("__eq__", "__repr__", "__str__", "__len__"):
            rows += [(one.lineno, "L28", f"{node.name} changes something") for one in inside(node) if stores(one)]
        if node.name in ("__len__", "__repr__", "__str__"):
            rows += [
                (one.lineno, "L28", f"what {node.name} gives back")
                for one in returns
                if not special_value(source, node.name, one.value)
            ]
    return rows


def stores(node):
    if isinstance(node, ast.AugAssign) or changed_name(node) is not None:
        return True
    return isinstance(node, ast.Attribute) and isinstance(node.ctx, ast.Store)


def special_value(source, name, value):
    if name == "__len__":
        return source.is_call(value, "len") or (isinstance(value, ast.Constant) and isinstance(value.value, int))
    if isinstance(value, ast.JoinedStr) or source.is_call(value, "str", "repr"):
        return True
    if isinstance(value, ast.Call) and isinstance(value.func, ast.Attribute):
        return value.func.attr == "join" and isinstance(value.func.value, ast.Constant)
    return isinstance(value, ast.Constant) and isinstance(value.value, str)

"""L3 to L7, L13, L20, L21, L27: which statements and expressions stand where."""

import ast

from checks.lists import OWN_METHODS
from checks.trees import DEFS

STATEMENTS = (
    ast.Assign, ast.AugAssign, ast.AnnAssign, ast.If, ast.While, ast.For, ast.Return, ast.Break, ast.Continue,
    ast.Pass, ast.Raise, ast.Try, ast.Expr, ast.FunctionDef, ast.ClassDef, ast.Import, ast.ImportFrom,
)
EXPRESSIONS = (
    ast.Constant, ast.List, ast.Tuple, ast.Dict, ast.Set, ast.BinOp, ast.UnaryOp, ast.BoolOp, ast.Compare,
    ast.IfExp, ast.Call, ast.Attribute, ast.Subscript, ast.Slice, ast.ListComp, ast.JoinedStr,
    ast.FormattedValue, ast.Lambda, ast.Name,
)


def check_forms(source):
    rows = []
    for told in (top_rows, def_rows, class_rows, statement_rows, expression_rows, lambda_rows, is_rows):
        rows += told(source)
    return rows


def is_text(node):
    return isinstance(node, ast.Expr) and isinstance(node.value, ast.Constant) and isinstance(node.value.value, str)


def is_whole(node):
    return isinstance(node, ast.Constant) and isinstance(node.value, int) and not isinstance(node.value, bool)


def top_rows(source):
    rows = []
    defined = []
    for place, node in enumerate(source.tree.body):
        if isinstance(node, (ast.FunctionDef, ast.ClassDef)):
            defined.append(node.name)
        elif isinstance(node, (ast.Assign, ast.AnnAssign)):
            if not plain_top_row(node, defined):
                rows.append((node.lineno, "L3", "no plain value given to a name"))
            elif holds_lists(node.value):
                rows.append((node.lineno, "L15", "a list or dict within a list or dict of the top"))
        elif isinstance(node, (ast.Import, ast.ImportFrom)) or (place == 0 and is_text(node)):
            pass
        elif not (source.is_main and place == len(source.tree.body) - 1 and is_main_row(node)):
            rows.append((node.lineno, "L3", "not for the top of a module"))
    return rows


def is_main_row(node):
    return isinstance(node, ast.If) and ast.unparse(node.test) == "__name__ == '__main__'" and not node.orelse


def plain_top_row(node, defined):
    targets = node.targets if isinstance(node, ast.Assign) else [node.target]
    return all(isinstance(one, ast.Name) for one in targets) and is_plain(node.value, defined)


def is_plain(node, defined):
    if isinstance(node, (ast.List, ast.Tuple)):
        return all(is_plain(one, defined) for one in node.elts)
    if isinstance(node, ast.Dict):
        return all(one is not None and is_plain(one, defined) for one in node.keys + node.values)
    if isinstance(node, ast.UnaryOp):
        return isinstance(node.op, ast.USub) and is_whole(node.operand)
    if isinstance(node, ast.Name):
        return node.id in defined
    return isinstance(node, ast.Constant)


def holds_lists(value):
    within = [one for one in ast.walk(value) if one is not value and isinstance(one, (ast.List, ast.Dict))]
    return isinstance(value, (ast.List, ast.Dict, ast.Tuple)) and bool(within)


def def_rows(source):
    rows = []
    for node in source.nodes(*DEFS):
        held = node.args
        if held.vararg or held.kwarg or held.kwonlyargs or held.posonlyargs:
            rows.append((node.lineno, "L4", "parameters that are not plain"))
        if not all(is_plain(one, []) for one in held.defaults):
            rows.append((node.lineno, "L4", "a default that is no plain value"))
        if isinstance(node, ast.Lambda):
            continue
        if node.decorator_list:
            rows.append((node.lineno, "L4", "a decorator"))
        if node.end_lineno - node.lineno + 1 > 40:
            rows.append((node.lineno, "L10", "a function of more than 40 lines"))
        within = any(isinstance(one, DEFS) for one in source.above(node))
        if within and (node.returns or any(one.annotation for one in held.args)):
            rows.append((node.lineno, "L21", "an annotation on a def within a def"))
    return rows


def class_rows(source):
    rows = []
    for node in source.nodes(ast.ClassDef):
        if source.parent(node) is not source.tree:
            rows.append((node.lineno, "L15", "a class that is not at the file's top"))
        if len(node.bases) > 1 or node.keywords or node.decorator_list:
            rows.append((node.lineno, "L5", "more than one base, a keyword or a decorator"))
        for place, one in enumerate(node.body):
            if isinstance(one, ast.FunctionDef):
                if one.name.startswith("__") and one.name not in OWN_METHODS:
                    rows.append((one.lineno, "L5", f"the method {one.name}"))
            elif not isinstance(one, ast.Pass) and not (place == 0 and is_text(one)):
                rows.append((one.lineno, "L5", "no method in a class body"))
    return rows


def statement_rows(source):
    rows = []
    for node in source.nodes(ast.stmt):
        told = statement_fault(source, node)
        if told:
            rows.append((node.lineno, told[0], told[1]))
    return rows


def statement_fault(source, node):
    if not isinstance(node, STATEMENTS):
        return ("L6", f"the statement {node.__class__.__name__}")
    if isinstance(node, (ast.For, ast.While)) and node.orelse:
        return ("L6", "an else behind a loop")
    if isinstance(node, ast.Try) and node.finalbody:
        return ("L6", "finally")
    if isinstance(node, ast.Assign) and len(node.targets) > 1:
        return ("L6", "more than one target")
    if isinstance(node, ast.AnnAssign) and (node.value is None or not isinstance(node.target, ast.Name)):
        return ("L21", "an annotation without a value, or on no plain name")
    if isinstance(node, ast.Expr) and not isinstance(node.value, ast.Call) and not is_docstring(source, node):
        return ("L6", "a value by itself")
    return None


def is_docstring(source, node):
    above = source.parent(node)
    return is_text(node) and not isinstance(above, (ast.If, ast.For, ast.While, ast.Try)) and above.body[0] is node


def expression_rows(source):
    rows = []
    for node in source.nodes(ast.expr):
        if source.in_annotation(node):
            continue
        for rule, told in expression_faults(source, node):
            rows.append((node.lineno, rule, told))
    return rows


def expression_faults(source, node):
    if not isinstance(node, EXPRESSIONS):
        return [("L7", f"the expression {node.__class__.__name__}")]
    if isinstance(node, ast.Constant):
        return constant_faults(node)
    if isinstance(node, ast.BinOp):
        return operator_faults(node)
    if isinstance(node, ast.ListComp):
        made = node.generators
        wrong = len(made) > 1 or len(made[0].ifs) > 1 or made[0].is_async
        return [("L7", "a comprehension with more than one for or if")] if wrong else []
    if isinstance(node, ast.FormattedValue):
        plain = isinstance(node.value, ast.Name) and node.conversion in (-1, ord("r")) and not node.format_spec
        return [] if plain else [("L7", "an f-string with more than a plain name")]
    if isinstance(node, ast.Dict) and None in node.keys:
        return [("L7", "a star")]
    if isinstance(node, ast.Call) and any(one.arg is None for one in node.keywords):
        return [("L7", "a star")]
    if isinstance(node, ast.Set):
        return written_set_faults(source, node)
    return []


def constant_faults(node):
    value = node.value
    if not (value is None or isinstance(value, (bool, int, str))):
        return [("L7", f"a value of the kind {value.__class__.__name__}")]
    if isinstance(value, str) and chr(37) in value:
        return [("L27", "the hundredth sign in a text")]
    if is_whole(node) and value >= 10 ** 900:
        return [("L27", "a number of more than 900 digits")]
    return []


def operator_faults(node):
    if isinstance(node.op, (ast.Div, ast.MatMult)):
        return [("L7", "an operator that is out")]
    if isinstance(node.op, ast.Pow) and not (is_whole(node.right) and node.right.value <= 64):
        return [("L27", "an exponent that is not a written one of 0 to 64")]
    return []


def written_set_faults(source, node):
    faults = []
    asked = source.parent(node)
    on_the_spot = isinstance(asked, ast.Compare) and all(isinstance(op, (ast.In, ast.NotIn)) for op in asked.ops)
    if len([one for one in node.elts if is_whole(one)]) > 2 and not on_the_spot:
        faults.append(("L13", "a written set of three or more numbers"))
    if not any(isinstance(one, DEFS) for one in source.above(node)):
        faults.append(("L7", "a set outside of a function"))
    return faults


def lambda_rows(source):
    rows = []
    seen = []
    for node in source.nodes(ast.Lambda):
        shape = (node.lineno, [one.arg for one in node.args.args])
        if shape in seen:
            rows.append((node.lineno, "L13", "two lambdas with the same parameters on one line"))
        seen.append(shape)
    return rows


def is_rows(source):
    rows = []
    for node in source.nodes(ast.Compare):
        sides = [node.left] + node.comparators
        for place, op in enumerate(node.ops):
            beside = [one.value for one in sides[place:place + 2] if isinstance(one, ast.Constant)]
            allowed = any(one is None or isinstance(one, bool) for one in beside)
            if isinstance(op, (ast.Is, ast.IsNot)) and not allowed:
                rows.append((node.lineno, "L20", "is beside something else than None, True and False"))
    return rows

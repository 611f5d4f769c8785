"""L8, L12, L15, L17: what names are called, and whose they are."""

import ast
import re

from checks.lists import (
    ANNOTATED, CALLED, ERRORS, FRAMES, NOT_NAMES, NOWHERE, OWN_METHODS, PYTHONS_NAMES, TOP_NAMES,
)
from checks.trees import DEFS, names_bound_by, parameters


def check_names(source):
    rows = []
    for node, name in all_names(source):
        rows += [(node.lineno, rule, told) for rule, told in name_faults(source, node, name)]
    return rows + read_rows(source) + bound_rows(source) + top_rows(source)


def all_names(source):
    """Each word that names something: (node, word)."""
    found = []
    for node in source.nodes(ast.Name):
        found.append((node, node.id))
    for node in source.nodes(ast.Attribute):
        found.append((node, node.attr))
    for node in source.nodes(ast.arg, ast.keyword):
        if node.arg:
            found.append((node, node.arg))
    for node in source.nodes(ast.FunctionDef, ast.ClassDef, ast.ExceptHandler):
        if node.name:
            found.append((node, node.name))
    for node in source.nodes(ast.Import, ast.ImportFrom):
        if getattr(node, "module", None) != "__future__":
            found += [(node, name) for name in names_bound_by(node)]
    return found


def name_faults(source, node, name):
    faults = []
    if not re.fullmatch("[A-Za-z][A-Za-z0-9_]*", name) and not allowed_underscores(source, node, name):
        faults.append(("L12", f"the name {name}"))
    if name in NOWHERE + FRAMES:
        faults.append(("L17", f"the name {name}"))
    if isinstance(node, ast.Attribute) and name in ("format", "format_map", "mro"):
        faults.append(("L8", f"the attribute {name}"))
    if not isinstance(node, (ast.Attribute, ast.keyword)) and not is_method(source, node):
        if name in NOT_NAMES or (name == "sys" and not source.is_main):
            faults.append(("L17", f"the name {name}"))
    return faults


def is_method(source, node):
    return isinstance(node, ast.FunctionDef) and isinstance(source.parent(node), ast.ClassDef)


def allowed_underscores(source, node, name):
    if isinstance(node, ast.FunctionDef):
        return name in OWN_METHODS
    if isinstance(node, ast.Attribute):
        return name in OWN_METHODS + ["__name__"]
    return name in TOP_NAMES or (name == "__name__" and source.is_main)


def read_rows(source):
    rows = []
    for node in source.nodes(ast.Name):
        if not isinstance(node.ctx, ast.Load) or source.scope_of(node) is not None:
            continue
        known = CALLED + ERRORS
        if source.is_main:
            known = known + ["print", "__name__"]
        if source.in_annotation(node):
            known = known + ANNOTATED
        if node.id not in known:
            rows.append((node.lineno, "L8", f"the name {node.id}, which is none of the program's or of L8's"))
        if node.id == "chr":
            rows.append((node.lineno, "L27", "chr"))
    return rows


def file_owned(source):
    """The names of a file's classes and imports, which no parameter and no local bears."""
    kinds = (ast.ClassDef, ast.Import, ast.ImportFrom)
    return [name for name, nodes in source.top_nodes.items() if any(isinstance(one, kinds) for one in nodes)]


def bound_rows(source):
    rows = []
    owned = file_owned(source)
    for scope, names in source.bound.items():
        for name in names:
            if name in owned:
                rows.append((scope.lineno, "L15", f"{name} is a class or an import of the file"))
            if name in PYTHONS_NAMES:
                rows.append((scope.lineno, "L15", f"{name} is a name of Python's own"))
    return rows


def top_rows(source):
    rows = []
    for name, nodes in source.top_nodes.items():
        if len(nodes) > 1:
            rows.append((nodes[1].lineno, "L15", f"{name} is bound more than once"))
        if name in PYTHONS_NAMES:
            rows.append((nodes[0].lineno, "L8", f"{name} is given another meaning"))
    for node in source.nodes(*DEFS):
        words = [one.arg for one in parameters(node)]
        if len(words) > len(set(words)):
            rows.append((node.lineno, "L4", "a parameter twice"))
    return rows

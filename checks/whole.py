"""L2, L5, L15, L16, L18, L26: what only all files together show."""

import ast

from checks.lists import (
    CHANGING, ERRORS, METHODS, OWN_METHODS, OWN_VALUES, READERS, READING_METHODS, TAKEN_NAMES,
)
from checks.calls import beside_isinstance, changed_name


def check_whole(package, sources):
    """Rows (path, line, rule, words) for a dict of sources by their paths."""
    rows = []
    classes = names_of_kind(sources, ast.ClassDef)
    listed = top_lists(sources)
    methods = own_methods(sources)
    values = own_values(sources)
    for path, source in sources.items():
        found = import_rows(package, path, source, sources) + base_rows(source, classes) + class_rows(source, classes)
        found += list_rows(source, listed) + member_rows(source, methods, values)
        rows += [(path, line, rule, told) for line, rule, told in found]
    return rows + circle_rows(package, sources)


def names_of_kind(sources, kind):
    return [node.name for source in sources.values() for node in source.tree.body if isinstance(node, kind)]


def own_methods(sources):
    found = []
    for source in sources.values():
        for node in source.nodes(ast.ClassDef):
            found += [one.name for one in node.body if isinstance(one, ast.FunctionDef)]
    return sorted(set(found))


def own_values(sources):
    found = []
    for source in sources.values():
        found += [one.attr for one in source.nodes(ast.Attribute) if isinstance(one.ctx, ast.Store)]
    return sorted(set(found))


def top_lists(sources):
    found = []
    for source in sources.values():
        for name, nodes in source.top_nodes.items():
            if any(isinstance(getattr(one, "value", None), (ast.List, ast.Dict)) for one in nodes):
                found.append(name)
    return found


def file_of(package, module):
    """The path within the package of a module's dotted name, None for one outside of it."""
    words = module.split(".")
    if words[0] != package:
        return None
    return "/".join(words[1:]) + ".py" if len(words) > 1 else "__init__.py"


def import_rows(package, path, source, sources):
    rows = []
    ahead = True
    for node in source.tree.body:
        if isinstance(node, (ast.FunctionDef, ast.ClassDef, ast.Assign)):
            ahead = False
        if isinstance(node, (ast.Import, ast.ImportFrom)) and not ahead:
            rows.append((node.lineno, "L2", "an import that is not at the top of the file"))
    for node in source.nodes(ast.Import, ast.ImportFrom):
        if source.parent(node) is not source.tree:
            rows.append((node.lineno, "L2", "an import that is not at the top of the file"))
        rows += [(node.lineno, rule, told) for rule, told in import_faults(package, node, source, sources)]
    if path.endswith("__init__.py"):
        folder = path.removesuffix("__init__.py")
        for name, nodes in source.top_nodes.items():
            if f"{folder}{name}.py" in sources or f"{folder}{name}/__init__.py" in sources:
                rows.append((nodes[0].lineno, "L16", f"{name} is one of the folder's files"))
    return rows


def import_faults(package, node, source, sources):
    if isinstance(node, ast.Import):
        plain = source.is_main and [(one.name, one.asname) for one in node.names] == [("sys", None)]
        return [] if plain else [("L16", "an import that is no from .. import ..")]
    if node.level == 0 and node.module == "__future__":
        return [] if [one.name for one in node.names] == ["annotations"] else [("L2", "what is drawn from __future__")]
    path = file_of(package, node.module or "") if node.level == 0 else None
    if path is None or node.module.endswith("__main__"):
        return [("L2", "an import from somewhere else than the package's own modules by full name")]
    if any(one.name == "*" for one in node.names):
        return [("L2", "import *")]
    drawn = sources.get(path)
    faults = []
    for one in node.names:
        made = drawn.top_nodes.get(one.name, []) if drawn else []
        if not made or isinstance(made[0], (ast.Import, ast.ImportFrom)):
            faults.append(("L16", f"{one.name} is not defined in {node.module}"))
    return faults


def drawn_paths(package, path, source, sources):
    found = []
    for node in source.nodes(ast.ImportFrom):
        target = file_of(package, node.module or "")
        if target not in sources:
            continue
        folders = target.split("/")[:-1]
        above = ["/".join(folders[:many] + ["__init__.py"]) for many in range(len(folders) + 1)]
        found += [one for one in above + [target] if one in sources and one != path]
    return found


def circle_rows(package, sources):
    draws = {path: drawn_paths(package, path, source, sources) for path, source in sources.items()}
    rows = []
    for path in draws:
        reached = []
        waiting = list(draws[path])
        while waiting:
            one = waiting.pop()
            if one not in reached:
                reached.append(one)
                waiting.extend(draws[one])
        if path in reached:
            rows.append((path, 1, "L16", "draws from itself in some steps"))
    return rows


def base_rows(source, classes):
    rows = []
    for node in source.nodes(ast.ClassDef):
        for base in node.bases:
            name = base.id if isinstance(base, ast.Name) else ""
            if name not in classes + ERRORS:
                rows.append((node.lineno, "L5", "a base that is no class of the package and no error class"))
            if name in ("StopIteration", "AttributeError"):
                rows.append((node.lineno, "L18", f"an error class under {name}"))
        names = [one.name for one in node.body if isinstance(one, ast.FunctionDef)]
        if len(names) > len(set(names)):
            rows.append((node.lineno, "L18", "a method twice"))
    return rows


def class_rows(source, classes):
    rows = []
    for node in source.nodes(ast.Name):
        if isinstance(node.ctx, ast.Load) and (node.id in classes or source.is_python(node, *ERRORS)):
            if not class_may_stand(source, node):
                rows.append((node.lineno, "L18", f"the class {node.id} is handed on"))
    for node in source.nodes(ast.Attribute):
        if isinstance(node.ctx, ast.Store):
            local = isinstance(node.value, ast.Name) and source.scope_of(node.value) not in (None, "top")
            if not local:
                rows.append((node.lineno, "L18", "a value that is not given through a local name"))
    return rows


def class_may_stand(source, node):
    above = source.parent(node)
    if isinstance(above, ast.Call) and above.func is node:
        return True
    if isinstance(above, ast.Tuple) and isinstance(source.parent(above), ast.ExceptHandler):
        return True
    if isinstance(above, ast.Attribute) and above.attr == "__init__":
        return True
    return isinstance(above, (ast.ClassDef, ast.ExceptHandler)) or beside_isinstance(source, node) \
        or source.in_annotation(node)


def list_rows(source, listed):
    rows = []
    for node in source.nodes(ast.Name):
        if node.id in listed and isinstance(node.ctx, ast.Load) and source.scope_of(node) == "top":
            above = source.parent(node)
            if changed_name(above) == node.id or changed_name(source.parent(above)) == node.id:
                rows.append((node.lineno, "L15", f"{node.id} of a file's top is changed"))
            elif not only_read(source, node, above):
                rows.append((node.lineno, "L15", f"{node.id} of a file's top is handed on"))
    return rows


def only_read(source, node, above):
    if isinstance(above, ast.Subscript):
        return above.value is node
    if isinstance(above, (ast.For, ast.comprehension)):
        return above.iter is node
    if isinstance(above, ast.Attribute):
        return above.attr in READING_METHODS
    return isinstance(above, ast.Compare) or source.is_call(above, *READERS)


def member_rows(source, methods, values):
    rows = []
    for node in source.nodes(ast.ClassDef):
        for one in node.body:
            if isinstance(one, ast.FunctionDef):
                if one.name in values:
                    rows.append((one.lineno, "L18", f"{one.name} is a method and a value"))
                if one.name in TAKEN_NAMES and one.name not in METHODS + CHANGING + OWN_METHODS:
                    rows.append((one.lineno, "L26", f"the method {one.name}"))
    for node in source.nodes(ast.Attribute):
        if isinstance(node.ctx, ast.Store) and node.attr in TAKEN_NAMES + ["format"] and node.attr not in OWN_VALUES:
            rows.append((node.lineno, "L26", f"the value {node.attr}"))
        known = node.attr in methods + values + METHODS + ["add", "discard", "__name__", "__init__"]
        if isinstance(node.ctx, ast.Load) and not known:
            rows.append((node.lineno, "L25", f"the method or value {node.attr}, which is none of the program's"))
    return rows

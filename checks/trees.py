"""A file of the package, read once for all checks: its text, its tree, who stands above whom, and its scopes."""

import ast

DEFS = (ast.FunctionDef, ast.AsyncFunctionDef, ast.Lambda)
SCOPES = DEFS + (ast.ListComp, ast.SetComp, ast.DictComp, ast.GeneratorExp)


class Source:
    def __init__(self, path, text):
        self.path = path
        self.text = text
        self.tree = ast.parse(text)
        self.parents = {}
        for node in ast.walk(self.tree):
            for child in ast.iter_child_nodes(node):
                self.parents[child] = node
        self.is_main = path == "__main__.py"
        self.top_nodes = top_bindings(self.tree)
        self.bound = {node: bound_in(node) for node in ast.walk(self.tree) if isinstance(node, SCOPES)}

    def nodes(self, *kinds):
        return [node for node in ast.walk(self.tree) if isinstance(node, kinds)]

    def parent(self, node):
        return self.parents.get(node)

    def above(self, node):
        found = []
        while node in self.parents:
            node = self.parents[node]
            found.append(node)
        return found

    def scope_of(self, name_node):
        """The scope in which a name is bound: a node, "top", or None for one of Python's own."""
        for node in self.above(name_node):
            if node in self.bound and name_node.id in self.bound[node]:
                return node
        return "top" if name_node.id in self.top_nodes else None

    def is_python(self, node, *names):
        return isinstance(node, ast.Name) and node.id in names and self.scope_of(node) is None

    def is_call(self, node, *names):
        return isinstance(node, ast.Call) and self.is_python(node.func, *names)

    def in_annotation(self, node):
        below = node
        for above in self.above(node):
            if isinstance(above, ast.arg) and above.annotation is below:
                return True
            if isinstance(above, ast.AnnAssign) and above.annotation is below:
                return True
            if isinstance(above, ast.FunctionDef) and above.returns is below:
                return True
            below = above
        return False


def target_names(target):
    return [node.id for node in ast.walk(target) if isinstance(node, ast.Name) and isinstance(node.ctx, ast.Store)]


def parameters(node):
    held = node.args
    found = held.posonlyargs + held.args + held.kwonlyargs
    return found + [one for one in (held.vararg, held.kwarg) if one]


def inside(node):
    """All nodes of a scope, but for those of the scopes within it."""
    found = []
    waiting = [node.body] if isinstance(node, ast.Lambda) else list(ast.iter_child_nodes(node))
    while waiting:
        one = waiting.pop()
        found.append(one)
        if not isinstance(one, SCOPES + (ast.ClassDef,)):
            waiting.extend(ast.iter_child_nodes(one))
    return found


def bound_in(node):
    if not isinstance(node, DEFS):
        return [name for made in node.generators for name in target_names(made.target)]
    names = [one.arg for one in parameters(node)]
    for one in inside(node):
        if isinstance(one, ast.Name) and isinstance(one.ctx, ast.Store):
            names.append(one.id)
        if isinstance(one, (ast.FunctionDef, ast.ClassDef)):
            names.append(one.name)
        if isinstance(one, ast.ExceptHandler) and one.name:
            names.append(one.name)
    return names


def top_bindings(tree):
    """Each name that a file's top binds, with the rows that bind it."""
    found = {}
    for node in tree.body:
        for name in names_bound_by(node):
            found.setdefault(name, []).append(node)
    return found


def names_bound_by(node):
    if isinstance(node, (ast.FunctionDef, ast.ClassDef)):
        return [node.name]
    if isinstance(node, (ast.Import, ast.ImportFrom)):
        return [(one.asname or one.name).split(".")[0] for one in node.names]
    return target_names(node)

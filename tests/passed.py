"""Finds in a syntax tree where a range, or what is to be iterated at once as a range is (L23), is passed on.

Python's builtins and the library's functions iterate what they get; each other callable is taken for one of the
package.
"""

import ast
import builtins

MAKERS = ("range", "zip", "enumerate", "reversed")
VIEWS = ("items", "keys", "values")
FUNCTIONS = (ast.FunctionDef, ast.AsyncFunctionDef, ast.Lambda)


def passed_rows(tree, package):
    """The ascending list of the rows of calls in which such a value is passed to a function of the package."""
    taken = library_names(tree, package)
    rows = rows_within(tree, taken, set())
    for node in ast.walk(tree):
        if isinstance(node, FUNCTIONS):
            rows |= rows_within(node, taken, kept_names(node))
    return sorted(rows)


def rows_within(tree, taken, kept):
    calls = [node for node in ast.walk(tree) if isinstance(node, ast.Call) and not iterates_at_once(node.func, taken)]
    return {call.lineno for call in calls if any(is_handed(value, kept) for value in arguments(call))}


def library_names(tree, package):
    """The names that a file imports from elsewhere than the package."""
    sources = [node for node in ast.walk(tree) if isinstance(node, ast.ImportFrom)]
    return {name.name for node in sources if node.module.split(".")[0] != package for name in node.names}


def kept_names(function):
    """The local variables that keep such a value."""
    kept = set()
    for node in ast.walk(function):
        if isinstance(node, (ast.Assign, ast.AnnAssign, ast.NamedExpr)) and is_handed(node.value, set()):
            targets = node.targets if isinstance(node, ast.Assign) else [node.target]
            kept |= {target.id for target in targets if isinstance(target, ast.Name)}
    return kept


def iterates_at_once(called, taken):
    if isinstance(called, ast.Name):
        return hasattr(builtins, called.id) or called.id in taken
    return isinstance(called, ast.Attribute) and called.attr == "join" and isinstance(called.value, ast.Constant)


def arguments(call):
    return call.args + [keyword.value for keyword in call.keywords]


def is_handed(node, kept):
    """Whether an expression gives such a value, or contains one that nothing in it has iterated."""
    if isinstance(node, ast.Name):
        return node.id in kept
    if isinstance(node, ast.Call):
        return is_made_here(node)
    return any(is_handed(part, kept) for part in parts_of(node))


def is_made_here(call):
    if isinstance(call.func, ast.Name):
        return call.func.id in MAKERS
    return isinstance(call.func, ast.Attribute) and call.func.attr in VIEWS and call.args == []


def parts_of(node):
    """The expressions whose values can be the value of an expression, or an item of it."""
    if isinstance(node, (ast.Tuple, ast.List)):
        return node.elts
    if isinstance(node, (ast.Dict, ast.BoolOp)):
        return node.values
    if isinstance(node, ast.IfExp):
        return [node.body, node.orelse]
    if isinstance(node, (ast.Starred, ast.NamedExpr, ast.keyword)):
        return [node.value]
    if isinstance(node, ast.Subscript) and isinstance(node.slice, ast.Slice):
        return [node.value]
    if isinstance(node, (ast.ListComp, ast.GeneratorExp)):
        return [node.elt]
    return []

"""All checks together, over a package's folder or over texts."""

import os

from checks.calls import check_calls
from checks.files import check_places, check_text
from checks.forms import check_forms
from checks.names import check_names
from checks.trees import Source
from checks.whole import check_whole, own_methods


def check_package(package, texts):
    """Rows (path, line, rule, words) for a dict of texts by their paths within the package's folder."""
    rows = check_places(list(texts))
    sources = {path: Source(path, text) for path, text in texts.items() if path.endswith(".py")}
    methods = own_methods(sources)
    for path, source in sources.items():
        found = check_text(source) + check_forms(source) + check_names(source) + check_calls(source, methods)
        rows += [(path, line, rule, told) for line, rule, told in found]
    return sorted(set(rows + check_whole(package, sources)))


def read_folder(folder):
    """The texts of all that lies in a folder, by their paths in it; folders end in / and have none."""
    texts = {}
    for place, folders, files in os.walk(folder):
        folders[:] = sorted(name for name in folders if name != "__pycache__")
        here = os.path.relpath(place, folder).replace(os.sep, "/")
        ahead = "" if here == "." else here + "/"
        texts.update({f"{ahead}{name}/": "" for name in folders})
        for name in sorted(files):
            with open(os.path.join(place, name), encoding="utf-8", newline="") as opened:
                texts[ahead + name] = opened.read()
    return texts

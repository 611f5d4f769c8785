"""L1, L10, L14, L17, L27: names of files, lengths, signs, words."""

import io
import re
import tokenize

from checks.lists import FILES, PIECES, PYTHONS_NAMES, WORDS


def check_places(paths):
    """The names of all that lies in the package's folder, folders with a / behind."""
    rows = []
    folders = [""] + [path for path in paths if path.endswith("/")]
    for folder in folders:
        if folder + "__init__.py" not in paths:
            rows.append((folder or ".", 1, "L14", "no __init__.py"))
    for path in paths:
        rows += [(path, 1, rule, told) for rule, told in place_faults(path)]
    return rows


def place_faults(path):
    name = path.rstrip("/").split("/")[-1]
    stem = name if path.endswith("/") else name.removesuffix(".py")
    if not path.endswith("/") and not name.endswith(".py"):
        return [("L1", "no .py file")]
    if name == "__init__.py" or path == "__main__.py":
        return []
    faults = []
    if not re.fullmatch("[a-z][a-z0-9_]*", stem):
        faults.append(("L14", "no plain lower-case name"))
    if stem in FILES + WORDS + PYTHONS_NAMES or stem.startswith("test_") or any(one in stem for one in PIECES):
        faults.append(("L14", "a name that no file has"))
    return faults


def check_text(source):
    rows = []
    lines = source.text.split("\n")
    if len(source.text.splitlines()) > 400:
        rows.append((401, "L10", "more than 400 lines"))
    for number, line in enumerate(lines, start=1):
        rows += [(number, rule, told) for rule, told in line_faults(line)]
    return rows + escape_faults(source.text)


def line_faults(line):
    faults = []
    if len(line) > 120:
        faults.append(("L10", "more than 120 characters"))
    if "\t" in line:
        faults.append(("L10", "a tab"))
    if any(not " " <= sign <= "~" for sign in line):
        faults.append(("L14", "a sign that is none from the blank to the tilde"))
    for word in re.findall(r"\w+", line):
        if word in WORDS or any(piece in word for piece in PIECES):
            faults.append(("L17", f"the word {word}"))
    return faults


def escape_faults(text):
    rows = []
    for token in tokenize.generate_tokens(io.StringIO(text).readline):
        if tokenize.tok_name[token.type] not in ("STRING", "FSTRING_MIDDLE"):
            continue
        for sign in re.findall(r"\\(.)", token.string, re.DOTALL):
            if sign not in "nt\\'\"":
                rows.append((token.start[0], "L27", "an escape"))
    return rows

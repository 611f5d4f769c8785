"""python3 -m checks FOLDER: prints each place that is outside the language, and fails where there is one."""

import os
import sys

from checks.language import check_package, read_folder


def main():
    folder = sys.argv[1].rstrip("/")
    rows = check_package(os.path.basename(folder), read_folder(folder))
    for path, line, rule, told in rows:
        print(f"{folder}/{path}:{line}: {rule}: {told}")
    print(f"language: {len(rows)} places outside the rules")
    return 1 if rows else 0


if __name__ == "__main__":
    sys.exit(main())

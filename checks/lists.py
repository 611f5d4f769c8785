"""The lists of names that the rules of LANGUAGE.md speak of."""

import builtins
import types

ERRORS = """Exception ValueError TypeError KeyError IndexError LookupError ZeroDivisionError ArithmeticError
OverflowError RuntimeError NotImplementedError AttributeError StopIteration""".split()

CALLED = """len range enumerate zip min max sum abs sorted reversed int str bool list tuple dict set frozenset
isinstance ord chr repr any all divmod""".split()

ANNOTATED = ["object", "float", "bytes"]

PYTHONS_NAMES = [name for name in dir(builtins) if not name.startswith("_")]

OWN_METHODS = ["__init__", "__eq__", "__repr__", "__str__", "__len__"]
TOP_NAMES = ["__all__", "__version__"]

NOWHERE = """register mro elements open input version_info with_traceback add_note""".split()

FRAMES = [
    name
    for kind in (
        types.FrameType,
        types.CodeType,
        types.TracebackType,
        types.GeneratorType,
        types.CoroutineType,
        types.AsyncGeneratorType,
    )
    for name in dir(kind)
    if name.split("_")[0] in ("f", "co", "tb", "gi", "cr", "ag")
]

NOT_NAMES = """attrgetter breakpoint builtins compile copyright credits delattr dir eval exec exit gc getattr
globals hasattr help id importlib license locals methodcaller os quit setattr super type vars""".split()

WORDS = """type typing typing_extensions enum Enum IntEnum StrEnum Flag IntFlag Generic Protocol ABC ABCMeta
namedtuple NamedTuple TypedDict TYPE_CHECKING abstractmethod""".split()

PIECES = ["dataclass", "overload", "contextmanager"]

FILES = ["test", "tests", "testing", "site", "conftest", "sitecustomize", "usercustomize"]

METHODS = """append clear copy count endswith extend find get index insert isalnum isalpha isdigit islower
isspace isupper items join keys ljust lower lstrip partition pop remove replace reverse rfind rjust rpartition
rsplit rstrip setdefault split splitlines startswith strip update upper values zfill bit_length""".split()

CHANGING = """append clear extend insert pop remove reverse setdefault update add discard""".split()

OWN_VALUES = """count index title find get join lower upper split strip copy add""".split()

TAKEN_NAMES = sorted(
    {name for kind in (str, int, list, tuple, dict, set, frozenset, bytes) for name in dir(kind)} | {"args"}
)

KEYWORDS = {
    "sorted": ["key", "reverse"],
    "min": ["key", "default"],
    "max": ["key", "default"],
    "sum": ["start"],
    "enumerate": ["start"],
    "zip": ["strict"],
}

KEYS = ["len", "int", "str", "abs", "sum", "min", "max", "tuple"]

WALKED = ["zip", "enumerate", "reversed", "range"]
WALKED_METHODS = ["items", "keys", "values"]
WALKERS = ["list", "tuple", "dict", "sorted", "sum", "any", "all", "enumerate", "zip"]
LONE_WALKERS = ["min", "max"]
READERS = WALKERS + LONE_WALKERS + ["len", "reversed", "isinstance"]
READING_METHODS = ["get", "items", "keys", "values", "index", "count", "copy"]

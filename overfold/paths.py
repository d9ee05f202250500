"""Names and paths: a path is a tuple of names, the first one in the root, and the root itself is ()."""

LETTERS = "abcdefghijklmnopqrstuvwxyz"
LONGEST_NAME = 8
MOST_NAMES = 8


def is_name(word):
    return 0 < len(word) <= LONGEST_NAME and all([sign in LETTERS for sign in word])


def path_text(path):
    if path == ():
        return "/"
    return "".join(["/" + name for name in path])


def path_in(text):
    return path_up_to(text, MOST_NAMES)


def path_up_to(text, most):
    # The root is the one path whose text ends with a stroke.
    if text == "/":
        return ()
    if not text.startswith("/"):
        return None
    names = text[1:].split("/")
    if len(names) > most or not all([is_name(name) for name in names]):
        return None
    return tuple(names)


def parent_of(path):
    return path[:-1]


def begins_with(path, other):
    return path[:len(other)] == other


def is_beneath(path, other):
    return len(path) > len(other) and begins_with(path, other)


def moved_path(path, old, new):
    # No bound here: whoever moves a thing asks for the length of what comes.
    if begins_with(path, old):
        return new + path[len(old):]
    return path

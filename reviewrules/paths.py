"""Paths, patterns, and which pattern matches which path."""

from reviewrules.signs import FILE_SIGNS

LONGEST_FILE_NAME = 12
LONGEST_PATH = 40
MOST_PARTS = 4
ANY_NAME = "*"
ALL_THAT_ARE_LEFT = "**"


def is_file_name(text):
    return 1 <= len(text) <= LONGEST_FILE_NAME and all([sign in FILE_SIGNS for sign in text])


def is_path(text):
    names = text.split("/")
    if len(text) > LONGEST_PATH or len(names) > MOST_PARTS:
        return False
    return all([is_file_name(name) for name in names])


def is_pattern(text):
    parts = text.split("/")
    if len(text) > LONGEST_PATH or len(parts) > MOST_PARTS:
        return False
    if parts[-1] == ALL_THAT_ARE_LEFT:
        parts = parts[:-1]
    return all([part == ANY_NAME or is_file_name(part) for part in parts])


def pattern_matches(pattern, path):
    parts = pattern.split("/")
    names = path.split("/")
    if parts[-1] == ALL_THAT_ARE_LEFT:
        parts = parts[:-1]
        # The two stars fit one name at least, so one must be left for them.
        if len(names) <= len(parts):
            return False
    elif len(names) != len(parts):
        return False
    return all([part in (ANY_NAME, name) for part, name in zip(parts, names)])

"""Names, digits, signs, the fields of lines and written paths (points 3, 9 and 50)."""

DIGITS = "0123456789"
MARKS = "()[]<>+-*/.,;:!?=&|^~@#"
MOST_CHARACTERS = 8


def is_small_letter(character):
    return "a" <= character <= "z"


def is_capital(character):
    return "A" <= character <= "Z"


def is_digit(name):
    """True if the name is that of a digit."""
    return len(name) == 1 and "0" <= name <= "9"


def is_big_name(name):
    if not 1 <= len(name) <= MOST_CHARACTERS or not is_capital(name[0]):
        return False
    return all([is_capital(sign) or is_small_letter(sign) or is_digit(sign) for sign in name])


def is_small_name(name):
    if not 1 <= len(name) <= MOST_CHARACTERS or not is_small_letter(name[0]):
        return False
    return name != "digit" and all([is_small_letter(sign) or is_digit(sign) for sign in name])


def is_sign(character):
    """True if the string of one character is a sign."""
    return is_small_letter(character) or character in MARKS


def fields_of(line):
    """The fields of a line, or an empty list if it has needless spaces or nothing in it."""
    fields = line.split(" ")
    return fields if all([len(field) > 0 for field in fields]) else []


def written_path(path):
    """The integers of a path joined by points, or `-` for the empty path."""
    return ".".join([str(at) for at in path]) if path else "-"


def read_path(written):
    """The path that is written so."""
    return tuple([int(at) for at in written.split(".")]) if written != "-" else ()

"""What an alphabet, a text, a name and a choice of letters must be."""

from textloops.errors import BadAlphabet, BadLetters, BadName, BadText, DoubleName

RESERVED = (
    "reads", "prints", "for", "up", "down", "mark", "set", "clear", "if", "else",
    "print", "copy", "pass", "in", "before", "at", "not", "and", "or",
)


def is_small_letter(sign):
    return "a" <= sign <= "z"


def is_word(text):
    """Tells whether the text has one or more characters, all from `a` to `z` or `0` to `9`."""
    return len(text) > 0 and all([is_small_letter(sign) or "0" <= sign <= "9" for sign in text])


def is_ascending(text):
    return all([sign < later for sign, later in zip(text, text[1:])])


def is_alphabet(text):
    return 1 <= len(text) <= 6 and is_ascending(text) and all([is_small_letter(sign) for sign in text])


def is_name(text):
    return 1 <= len(text) <= 20 and is_small_letter(text[0]) and is_word(text) and text not in RESERVED


def are_letters(letters, alphabet):
    """Tells whether these are one or more different letters of the alphabet in ascending order."""
    return len(letters) > 0 and is_ascending(letters) and all([letter in alphabet for letter in letters])


def check_alphabet(alphabet):
    if not is_alphabet(alphabet):
        raise BadAlphabet(alphabet)


def check_text(text, alphabet):
    for index, letter in enumerate(text):
        if letter not in alphabet:
            raise BadText(text, index)


def check_name(name):
    if not is_name(name):
        raise BadName(name)


def check_names(names):
    """Raises BadName for the first item that is not a name, then DoubleName for the first one that stands before."""
    for name in names:
        check_name(name)
    met = {}
    for name in names:
        if name in met:
            raise DoubleName(name)
        met[name] = True


def check_letters(letters, alphabet):
    if not are_letters(letters, alphabet):
        raise BadLetters(letters)


def letter_indexes(text, alphabet):
    """Returns the indexes of the text's letters in the alphabet; raises BadText."""
    check_text(text, alphabet)
    return [alphabet.find(letter) for letter in text]

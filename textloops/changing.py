"""Programs made of others: mirrored, with other names, one beside the other, with other words for letters."""

from textloops.checks import check_alphabet, check_text
from textloops.errors import DifferentAlphabets, DoubleName, MissingLetter, UnknownName
from textloops.making import changed_test, joined_block, names_of, renamed_test, with_blocks
from textloops.outlines import Outline
from textloops.programs import Program


def mirrored(program):
    """Returns the program that does on each text what the program does on the text read from its end."""
    return Program(program.reads, program.prints, changed_block(program, mirrored_statement))


def mirrored_statement(statement):
    """Returns, as a block, what becomes of the statement."""
    if statement[0] == "for":
        return (("for", statement[1], "down" if statement[2] == "up" else "up", statement[3]),)
    if statement[0] == "if":
        return (("if", changed_test(statement[1], mirrored_part), *statement[2:]),)
    return (statement,)


def mirrored_part(part):
    return ("before", part[2], part[1]) if part[0] == "before" else part


def renamed(program, pairs):
    """Returns the program in which the new names of the pairs `(old name, new name)` stand for the old ones."""
    names = names_of(Outline(program.block).statements)
    new_names = {name: name for name in names}
    for old, _ in pairs:
        if old not in new_names:
            raise UnknownName(old)
    met = {}
    for old, new in pairs:
        if old in met:
            raise DoubleName(old)
        met[old] = True
        new_names[old] = new
    block = changed_block(program, lambda statement: (renamed_statement(statement, new_names),))
    return Program(program.reads, program.prints, block)


def renamed_statement(statement, new_names):
    if statement[0] == "if":
        return ("if", renamed_test(statement[1], new_names), *statement[2:])
    if statement[0] == "print":
        return statement
    return (statement[0], new_names[statement[1]], *statement[2:])


def beside(one, two):
    """Returns the program that does the statements of the one program and then those of the other one."""
    if one.reads != two.reads or one.prints != two.prints:
        raise DifferentAlphabets()
    return Program(one.reads, one.prints, one.block + two.block)


def recoded(program, words, *, prints):
    """Returns the program that prints, where the program prints a letter, the word of the pair `(letter, word)`."""
    check_alphabet(prints)
    word_of = {}
    for letter, word in words:
        word_of.setdefault(letter, word)
    for letter in program.prints:
        if letter not in word_of:
            raise MissingLetter(letter)
    for _, word in words:
        check_text(word, prints)
    block = changed_block(program, lambda statement: recoded_statement(statement, word_of, program.reads))
    return Program(program.reads, prints, block)


def recoded_statement(statement, word_of, reads):
    """Returns, as a block, what becomes of the statement."""
    if statement[0] == "print":
        word = "".join([word_of[letter] for letter in statement[1]])
        return (("print", word),) if word else ()
    if statement[0] != "copy":
        return (statement,)
    letters_of = {}
    for letter in reads:
        word = word_of[letter]
        letters_of[word] = letters_of.get(word, "") + letter
    found = []
    for word, letters in letters_of.items():
        if word != "":
            found.append(choice(("in", statement[1], letters), reads, word))
    return tuple(found)


def choice(test, reads, word):
    """Returns the statement that prints the word if the letter at a place is one of those of the test."""
    return ("print", word) if test[2] == reads else ("if", test, (("print", word),), ())


def changed_block(program, change):
    """Returns the program's block with the blocks `change(statement)` for its statements, from within outwards."""
    outline = Outline(program.block)
    made = [() for _ in outline.statements]
    for spot in range(len(made) - 1, -1, -1):
        blocks = [joined_block(block, made) for block in outline.blocks[spot]]
        made[spot] = change(with_blocks(outline.statements[spot], blocks))
    return joined_block(outline.block, made)

"""Lines, words and numbers of texts."""


def words_of(line):
    """The words of a line: what is between blanks."""
    # A bare split() would also end words at line feeds and tabs, which are no blanks.
    return [word for word in line.split(" ") if word]


def lines_of(text):
    """The lines of a text."""
    return text.split("\n")


def told_lines(text):
    """The lines of a text that are not skipped, as tuples of their index and their words."""
    found = []
    for index, line in enumerate(lines_of(text)):
        words = words_of(line)
        if words and not words[0].startswith("#"):
            found.append((index, words))
    return found


def number_told(word):
    """The number that a word tells, None if it tells none."""
    # int() would take signs, noughts ahead, underscores and figures of other scripts, too.
    if not 1 <= len(word) <= 9 or not all(["0" <= sign <= "9" for sign in word]):
        return None
    if word[0] == "0" and word != "0":
        return None
    return int(word)


def purse_told(word):
    """The tuple of what stands ahead of the first plus sign of a word and behind it.

    A part that is no number is None: the tuple is a PURSE exactly if the word tells one.
    """
    size, _, back = word.partition("+")
    return (number_told(size), number_told(back))


def purse_word(purse):
    """The word SIZE+BACK of a PURSE."""
    return f"{purse[0]}+{purse[1]}"

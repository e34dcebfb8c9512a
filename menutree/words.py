"""Names by keys: the codes of words, and the beginnings by which they are told apart."""

# No letter is on this key, so behind its code a word is told from one whose code goes on.
CODE_END = "#"


def code_of(letters, word):
    """The keys on which the letters of a word are, or None where a letter is on no key."""
    keys = [key_of(letters, letter) for letter in word]
    return None if None in keys else "".join(keys)


def key_of(letters, letter):
    """The key on which a letter is, or None."""
    for key, held in letters:
        if letter in held:
            return key
    return None


def beginnings(letters, words):
    """For each word, in their order, the pair of it and the shortest beginning that no other one shares."""
    codes = [code_of(letters, word) + CODE_END for word in words]
    counts = beginning_counts(codes)
    return [(word, own_beginning(code, counts)) for word, code in zip(words, codes)]


def beginning_counts(codes):
    """By each beginning of the codes, how many of them begin so."""
    counts = {}
    for code in codes:
        for size in range(1, len(code) + 1):
            counts[code[:size]] = counts.get(code[:size], 0) + 1
    return counts


def own_beginning(code, counts):
    """The shortest beginning of a code that is of this one alone."""
    for size in range(1, len(code)):
        if counts[code[:size]] == 1:
            return code[:size]
    return code

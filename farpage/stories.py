"""Two machines' books held against one another."""


def stories(one, other, book, far):
    """For each page that the one kept for the other: (number, word, verdict), by the two books."""
    words = told_words(other, book)
    had = had_numbers(one, far)
    told = []
    for row in book:
        if row[0] == "kept" and row[2] == other:
            number = row[1]
            word = words.get(number, "waiting")
            told.append((number, word, verdict_on(word, number in had)))
    return told


def told_words(other, book):
    """By the number of each page told of to the other the word that counts."""
    words = {}
    for row in book:
        if row[0] == "told" and row[2] == other:
            number, word = row[1], row[3]
            # Behind unsure, unsent is no news: the page may have been had ahead of it.
            if word != "unsent" or words.get(number) != "unsure":
                words[number] = word
    return words


def had_numbers(one, far):
    """The numbers of the one's pages that were had, by the other book."""
    return {row[1][1]: True for row in far if row[0] == "had" and row[1][0] == one}


def verdict_on(word, was_had):
    """Whether what the one tells and what the other had are the same story."""
    if word == "unsure":
        return "open"
    return "same" if (word in ("good", "rough")) == was_had else "apart"

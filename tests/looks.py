"""Which words may stand next in texts, looked at by plain lists of what there can be."""

import re

from tests.helper import close_cells, read_cells, rule_words

MARKS = ("0", "1", "2")
LIVES = ("living", "dead")
NAME = re.compile("[a-z]{1,8}")
WAY = re.compile(r"founder|(0|[1-9][0-9]{0,2})(\.(0|[1-9][0-9]{0,2}))*")


def is_name(word):
    return NAME.fullmatch(word) is not None and word != "nobody"


def is_way(word):
    if not WAY.fullmatch(word):
        return False
    places = [] if word == "founder" else word.split(".")
    return len(places) <= 1999 and all(int(place) < 600 for place in places)


def first_wrong(look, text):
    """(line, word) of the first word that can't stand, None if the text can be read.

    look(done, before, word) tells whether a word may stand behind the words before it and the lines that are done;
    the word None is the end of the line, and with None before it the end of the text.
    """
    done = []
    for number, line in enumerate(text.split("\n")):
        words = line.split(" ")
        for place, word in enumerate(words):
            if not look(done, words[:place], word):
                return number, place
        if not look(done, words, None):
            return number, len(words)
        done.append(words)
    return None if look(done, None, None) else (len(done), 0)


def family(done, before, word):
    names = [words[0] for words in done]
    if before is None:
        return len(done) > 0
    if len(done) == 2000:
        return False
    if word is None:
        return len(before) >= 3
    if len(before) == 0:
        return is_name(word) and word not in names
    if len(before) < 3:
        return word in (MARKS, LIVES)[len(before) - 1]
    return len(before) < 603 and word in names


def story(done, before, word):
    if before is None:
        return len(done) > 0
    if done == [["nothing"]] or len(done) == 200:
        return False
    due = {"birth": 3, "death": 2, "nothing": 1}
    if not before:
        return word in ("birth", "death") or (word == "nothing" and not done)
    if word is None:
        return len(before) == due[before[0]]
    if len(before) >= due[before[0]]:
        return False
    return is_way(word) if len(before) == 1 else word in MARKS


def tree(done, before, word):
    if before is None:
        return len(done) > 0
    if len(done) == 300:
        return False
    if word is None:
        return len(before) == 4
    if not before:
        if not done:
            return word == "0"
        return word in [str(level) for level in range(1, int(done[-1][0]) + 2)]
    if len(before) == 1:
        return is_name(word) and word not in [words[1] for words in done]
    return len(before) < 4 and word in (MARKS, LIVES)[len(before) - 2]


def cell_words(cells, words, word):
    """Whether a word may stand behind words of a row of pairs, each out of a list of them."""
    if word is None:
        return len(words) == 2 * len(cells)
    if len(words) >= 2 * len(cells):
        return False
    here = cells[len(words) // 2]
    if len(words) % 2 == 0:
        return word in [str(number) for number, _ in here]
    return (words[-1], word) in [(str(number), held) for number, held in here]


def held(words):
    return tuple(word == "held" for word in words)


def custom(done, before, word):
    marks = int(done[0][1]) if done else 0
    stands = held(done[1][1:]) if len(done) > 1 else ()
    ranks = held(done[2][1:]) if len(done) > 2 else ()
    behind = len(done) - 3 - len(stands)
    if before is None or behind == 2 * marks > 0 and len(done) > 3:
        return before is None and len(done) > 3 and behind == 2 * marks
    if not before:
        heads = ["marks", "stands", "ranks"] + ["read"] * len(stands) + ["dead", "living"] * 3
        return word == heads[len(done)]
    if len(done) == 0:
        return len(before) == 2 if word is None else len(before) == 1 and word in ("1", "2", "3")
    if len(done) < 3:
        told = before[1:] if word is None else before[1:] + [word]
        if word not in (None, "none", "held") or len(told) > 8 or not told:
            return False
        if len(done) == 1:
            return told[0] == "none"
        # the dead member without children needs a rank; if there is room it may follow
        more = ["none"] if word is not None and len(told) < 8 else []
        return len(close_cells(stands, held(told + more), 0, False)) > 0
    if behind < 0:
        cells = [read_cells(stands, ranks, len(done) - 3, rank) for rank in range(len(ranks))]
    else:
        cells = [close_cells(stands, ranks, stand, behind % 2 == 1) for stand in range(len(stands))]
    return cell_words(cells, before[1:], word)


def deal(done, before, word):
    marks = int(done[0][1]) if done else 0
    ranks = [str(rank) for rank in range(len(done[1]) - 1)] if len(done) > 1 else []
    stands = [str(stand) for stand in range(int(done[2][1]))] if len(done) > 2 else []
    behind = len(done) - 3 - len(stands)
    if before is None or behind == 2 * marks > 0 and len(done) > 3:
        return before is None and len(done) > 3 and behind == 2 * marks
    if not before:
        heads = ["marks", "weights", "stands"] + ["read"] * len(stands) + ["dead", "living"] * 3
        return word == heads[len(done)]
    if len(done) in (0, 2):
        most = 3 if len(done) == 0 else 8
        return len(before) == 2 if word is None else len(before) == 1 and word in map(str, range(1, most + 1))
    if len(done) == 1:
        return len(before) > 1 if word is None else len(before) <= 8 and word in map(str, range(100))
    if behind < 0:
        return len(before) - 1 == len(ranks) if word is None else len(before) - 1 < len(ranks) and word in stands
    takes = ["lines", "lost"] + ["self"] * (behind % 2)
    return cell_words([[(rank, take) for rank in ranks for take in takes]] * len(stands), before[1:], word)


def rule_of_one_mark(done, before, word):
    """By all texts of all rules of one mark."""
    texts = rule_words()
    begun = tuple(item for words in done for item in words + ["\n"])
    if before is None:
        return texts.get(begun[:-1], False)
    here = begun + tuple(before)
    if word is None:
        return here + ("\n",) in texts or texts.get(here, False)
    return here + (word,) in texts

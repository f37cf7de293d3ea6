"""Which words may stand next in texts, looked at by plain lists of what there can be."""

import re

from tests.helper import close_cells, read_cells, rule_words

MARKS = ("0", "1", "2")
LIVES = ("living", "dead")
NAME = re.compile("[a-z]{1,8}")
WAY = re.compile(r"founder|(0|[1-9][0-9]{0,2})(\.(0|[1-9][0-9]{0,2}))*")


def is_name(word):
    return NAME.fullmatch(word) is not None and word != "nobody"


def is_way(word):
    if not WAY.fullmatch(word):
        return False
    places = [] if word == "founder" else word.split(".")
    return len(places) <= 1999 and all(int(place) < 600 for place in places)


def first_wrong(look, text):
    """(line, word) of the first word that can't stand, None if the text can be read.

    look(done, before, word) tells whether a word may stand behind the words before it and the lines that are done;
    the word None is the end of the line, and with None before it the end of the text.
    """
    done = []
    for number, line in enumerate(text.split("\n")):
        words = line.split(" ")
        for place, word in enumerate(words):
            if not look(done, words[:place], word):
                return number, place
        if not look(done, words, None):
            return number, len(words)
        done.append(words)
    return None if look(done, None, None) else (len(done), 0)


def family(done, before, word):
    names = [words[0] for words in done]
    if before is None:
        return len(done) > 0
    if len(done) == 2000:
        return False
    if word is None:
        return len(before) >= 3
    if len(before) == 0:
        return is_name(word) and word not in names
    if len(before) < 3:
        return word in (MARKS, LIVES)[len(before) - 1]
    return len(before) < 603 and word in names


def story(done, before, word):
    if before is None:
        return len(done) > 0
    if done == [["nothing"]] or len(done) == 200:
        return False
    due = {"birth": 3, "death": 2, "nothing": 1}
    if not before:
        return word in ("birth", "death") or (word == "nothing" and not done)
    if word is None:
        return len(before) == due[before[0]]
    if len(before) >= due[before[0]]:
        return False
    return is_way(word) if len(before) == 1 else word in MARKS


def tree(done, before, word):
    if before is None:
        return len(done) > 0
    if len(done) == 300:
        return False
    if word is None:
        return len(before) == 4
    if not before:
        if not done:
            return word == "0"
        return word in [str(level) for level in range(1, int(done[-1][0]) + 2)]
    if len(before) == 1:
        return is_name(word) and word not in [words[1] for words in done]
    return len(before) < 4 and word in (MARKS, LIVES)[len(before) - 2]


def cell_words(cells, words, word):
    """Whether a word may stand behind words of a row of pairs, each out of a list of them."""
    if word is None:
        return len(words) == 2 * len(cells)
    if len(words) >= 2 * len(cells):
        return False
    here = cells[len(words) // 2]
    if len(words) % 2 == 0:
        return word in [str(number) for number, _ in here]
    return (words[-1], word) in [(str(number), held) for number, held in here]


def held(words):
    return tuple(word == "held" for word in words)


def custom(done, before, word):
    marks = int(done[0][1]) if done else 0
    stands = held(done[1][1:]) if len(done) > 1 else ()
    ranks = held(done[2][1:]) if len(done) > 2 else ()
    behind = len(done) - 3 - len(stands)
    if before is None or behind == 2 * marks > 0 and len(done) > 3:
        return before is None and len(done) > 3 and behind == 2 * marks
    if not before:
        heads = ["marks", "stands", "ranks"] + ["read"] * len(stands) + ["dead", "living"] * 3
        return word == heads[len(done)]
    if len(done) == 0:
        return len(before) == 2 if word is None else len(before) == 1 and word in ("1", "2", "3")
    if len(done) < 3:
        told = before[1:] if word is None else before[1:] + [word]
        if word not in (None, "none", "held") or len(told) > 8 or not told:
            return False
        if len(done) == 1:
            return told[0] == "none"
        # the dead member without children needs a rank; if there is room it may follow
        more = ["none"] if word is not None and len(told) < 8 else []
        return len(close_cells(stands, held(told + more), 0, False)) > 0
    if behind < 0:
        cells = [read_cells(stands, ranks, len(done) - 3, rank) for rank in range(len(ranks))]
    else:
        cells = [close_cells(stands, ranks, stand, behind % 2 == 1) for stand in range(len(stands))]
    return cell_words(cells, before[1:], word)


def deal(done, before, word):
    marks = int(done[0][1]) if done else 0
    ranks = [str(rank) for rank in range(len(done[1]) - 1)] if len(done) > 1 else []
    stands = [str(stand) for stand in range(int(done[2][1]))] if len(done) > 2 else []
    behind = len(done) - 3 - len(stands)
    if before is None or behind == 2 * marks > 0 and len(done) > 3:
        return before is None and len(done) > 3 and behind == 2 * marks
    if not before:
        heads = ["marks", "weights", "stands"] + ["read"] * len(stands) + ["dead", "living"] * 3
        return word == heads[len(done)]
    if len(done) in (0, 2):
        most = 3 if len(done) == 0 else 8
        return len(before) == 2 if word is None else len(before) == 1 and word in map(str, range(1, most + 1))
    if len(done) == 1:
        return len(before) > 1 if word is None else len(before) <= 8 and word in map(str, range(100))
    if behind < 0:
        return len(before) - 1 == len(ranks) if word is None else len(before) - 1 < len(ranks) and word in stands
    takes = ["lines", "lost"] + ["self"] * (behind % 2)
    return cell_words([[(rank, take) for rank in ranks for take in takes]] * len(stands), before[1:], word)


def rule_of_one_mark(done, before, word):
    """By all texts of all rules of one mark."""
    texts = rule_words()
    begun = tuple(item for words in done for item in words + ["\n"])
    if before is None:
        return texts.get(begun[:-1], False)
    here = begun + tuple(before)
    if word is None:
        return here + ("\n",) in texts or texts.get(here, False)
    return here + (word,) in texts


def rule(done, before, word):
    """By lists of the kinds that are left."""
    marks = int(done[0][1]) if done else 0
    if before is None:
        return len(done) > 2
    if len(done) < 3:
        head = ("marks", "living", "dead")[len(done)]
        words = ((MARKS[1:] + ("3",)), ("self", "last", "line", "none"), ("yes", "no"))[len(done)]
        due = 2 if not done else 1 + marks
        if word is None:
            return len(before) == due
        return word == head if not before else len(before) < due and word in words
    kinds = [(str(mark), how) for mark in range(marks) for how in ("late", "past", "self")]
    for words in done[3:]:
        kinds = [kind for kind in kinds if kind not in list(zip(words[1::2], words[2::2]))]
    if not before:
        return word in ("eldest", "youngest") and len(done) < 9 and len(kinds) > 0
    told = list(zip(before[1::2], before[2::2]))
    left = [kind for kind in kinds if not told or kind > told[-1]]
    if word is None:
        return len(before) > 1 and len(before) % 2 == 1
    if len(before) % 2 == 1:
        return word in [mark for mark, _ in left]
    return (before[-1], word) in left


SORTS = {"family": family, "custom": custom, "rule": rule, "deal": deal, "story": story}
VERDICTS = {"heir": "nnw", "claims": "nn", "alike": "nn", "parts": "nnn", "steady": "n", "lasting": "n", "leads": "nnn",
            "heirs": "nnnw", "joined": "nnnpppppppp", "share": "nnydd"}


def is_verdict_word(sort, word):
    if sort == "n":
        return is_name(word)
    if sort == "p":
        return word in ("first", "second", "none")
    if sort == "d":
        return re.fullmatch("0|[1-9][0-9]{0,8}", word) is not None
    return is_way(word) or (sort == "w" and word == "nobody")


def sheet(done, before, word):
    entries = []
    has_verdicts = False
    for words in done:
        if words[0] in SORTS:
            entries.append((words, []))
        elif words[0] == "-":
            entries[-1][1].append(words[1:])
        else:
            has_verdicts = True
    is_whole = not entries or SORTS[entries[-1][0][0]](entries[-1][1], None, None)
    if before is None:
        return len(done) > 0 and is_whole
    if not before:
        if word == "-":
            goes_on = entries and not has_verdicts
            # some word has to be able to begin the next line of the text
            return bool(goes_on) and can_begin(SORTS[entries[-1][0][0]], entries[-1][1])
        return is_whole and (word in VERDICTS or (word in SORTS and not has_verdicts))
    if before[0] == "-":
        return SORTS[entries[-1][0][0]](entries[-1][1], before[1:], word)
    if before[0] in SORTS:
        if word is None:
            return len(before) == 2
        return len(before) == 1 and is_name(word) and word not in [words[1] for words, _ in entries]
    sorts = VERDICTS[before[0]]
    if word is None:
        return len(before) > len(sorts)
    if len(before) <= len(sorts):
        return is_verdict_word(sorts[len(before) - 1], word)
    return (before[0] == "heirs" and is_verdict_word("w", word)) or (
        before[0] == "claims" and len(before) <= 101 and is_verdict_word("y", word))


def can_begin(look, done):
    heads = ("zzzzzzzz", "marks", "stands", "ranks", "weights", "read", "dead", "living", "eldest", "birth")
    return any(look(done, [], word) for word in heads)

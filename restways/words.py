"""What the words of written rows tell."""

from restways.names import is_name
from restways.rules import NAMING, is_act

MOST_FIGURES = 3


def is_figures(word, most):
    """Whether a word is a number of at most so many figures, with no nought ahead but 0 itself."""
    if not 1 <= len(word) <= most or not all(["0" <= sign <= "9" for sign in word]):
        return False
    return word == "0" or word[0] != "0"


def all_names(words):
    """Whether all words are names."""
    return all([is_name(word) for word in words])


def parted(words, mark):
    """The lists of words between those that are mark."""
    parts = [[]]
    for word in words:
        if word == mark:
            parts.append([])
        else:
            parts[-1].append(word)
    return parts


def plain_cond_in(words):
    """The cond without not that words tell, None where they tell none."""
    if len(words) != 2:
        return None
    word, about = words
    if word == "long":
        return (word, int(about)) if is_figures(about, MOST_FIGURES) else None
    return (word, about) if word in NAMING and is_name(about) else None


def cond_in(words):
    """The cond that words tell, None where they tell none."""
    if words[:1] != ["not"]:
        return plain_cond_in(words)
    told = plain_cond_in(words[1:])
    return None if told is None else ("not", told)


def conds_in(words):
    """The list of conds that words, from if on, tell, with None for each that isn't so written."""
    return [cond_in(part) for part in parted(words[1:], "and")] if words else []


def worths_in(words):
    """The list of the one worth that words tell, empty where they tell none."""
    if words == ["never"]:
        return [None]
    if len(words) != 1 or words == ["-0"] or not is_figures(words[0].removeprefix("-"), MOST_FIGURES):
        return []
    return [int(words[0])]


def acts_in(words):
    """The list of the one act that words tell, empty where they tell none."""
    return [tuple(words)] if is_act(tuple(words)) else []


def rule_in(words):
    """The house and the rule that a like or hand row tells, None where it isn't so written.

    The rule may be none: of too many conds, or of such as its kind may not have.
    """
    if words[0] not in ("like", "hand"):
        return None
    # No name is if, so that the first one parts the conds from what is ahead of them.
    end = words.index("if") if "if" in words else len(words)
    told = worths_in(words[2:end]) if words[0] == "like" else acts_in(words[2:end])
    conds = conds_in(words[end:])
    if not told or None in conds or not is_name(words[1]):
        return None
    return (words[1], (tuple(conds), told[0]))

"""The text of a town."""


def show_cond(cond):
    """The words of a cond."""
    word, about = cond
    return f"not {show_cond(about)}" if word == "not" else f"{word} {about}"


def show_rule(word, house, told, conds):
    """The row of a rule: its word, its house, what it tells, its conds."""
    asked = " and ".join([show_cond(cond) for cond in conds])
    return f"{word} {house} {told} if {asked}" if conds else f"{word} {house} {told}"


def show_worth(worth):
    """The word of a worth."""
    return "never" if worth is None else str(worth)


def show_town(town):
    """The text of a town."""
    goal, houses, ties, likings, hands = town
    rows = [f"goal {goal}", " ".join(("houses",) + houses)]
    rows += [f"tie {one} {other}" for one, other in ties]
    rows += [show_rule("like", house, show_worth(worth), conds)
             for house, rules in zip(houses, likings) for conds, worth in rules]
    rows += [show_rule("hand", house, " ".join(act), conds)
             for house, rules in zip(houses, hands) for conds, act in rules]
    return "\n".join(rows)

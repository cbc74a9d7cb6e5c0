"""Names of houses and of marks."""

LONGEST = 8
# A town's text gives these words a meaning of their own.
TAKEN = ("if", "and", "not", "never")


def is_name(thing):
    """Whether thing, which may be anything, is a name."""
    if not isinstance(thing, str) or not 1 <= len(thing) <= LONGEST:
        return False
    return all(["a" <= sign <= "z" for sign in thing]) and thing not in TAKEN

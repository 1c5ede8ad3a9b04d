"""Which strings are tokens and names, and the tokens of a text."""

MOST_SIGNS = 4
MOST_LETTERS = 8
PERCENT = 37


def is_token(text):
    """Whether a string is one to four characters from ! to ~, none of them the percent sign."""
    if not 1 <= len(text) <= MOST_SIGNS:
        return False
    return all(["!" <= sign <= "~" and ord(sign) != PERCENT for sign in text])


def is_name(text):
    """Whether a string is one to eight letters a to z."""
    if not 1 <= len(text) <= MOST_LETTERS:
        return False
    return all(["a" <= letter <= "z" for letter in text])


# A split without an argument would part the runs at tabs and the like, too.
def runs_of(text):
    """The longest runs of characters other than blanks and line feeds."""
    return [run for run in text.replace("\n", " ").split(" ") if run != ""]

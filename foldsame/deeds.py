"""Deeds: how they are written in the rows of a journal."""


def deed_line(deed):
    """A deed as it is written."""
    if deed[0] in ("put", "shelve") and deed[2] != "":
        return f"{deed[0]} {deed[1]} " + deed[2].replace("\n", " / ")
    return " ".join(deed[:2])


def read_deed(line):
    """The deed that is written in a line, or None if there is none; its name is any word."""
    word, _, rest = line.partition(" ")
    if line == "link":
        return ("link",)
    if word == "drop":
        return ("drop", rest) if rest != "" and " " not in rest else None
    name, space, rows = rest.partition(" ")
    # What ends with the name is the empty text.
    if word not in ("put", "shelve") or name == "" or (space != "" and rows == ""):
        return None
    return (word, name, rows.replace(" / ", "\n"))

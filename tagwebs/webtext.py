"""The written form of webs."""

from tagwebs.errors import BadLine
from tagwebs.names import is_name
from tagwebs.tying import is_tie
from tagwebs.webs import Web

# A number in a text is one of these words, at its own index.
NUMERALS = ("0", "1", "2", "3", "4")


def web_text(web):
    """The written form of a web."""
    lines = [f"beats {web.beats}"]
    lines.extend([f"place {name}" for name in web])
    lines.extend([tie_line(tie, web.beats) for tie in web.ties()])
    return "\n".join(lines)


def tie_line(tie, beats):
    """The line of a tie."""
    first, second, way, when = tie
    words = ["tie" if way == "two" else "way", first, second]
    if len(when) < beats:
        words.append("at")
        words.extend([str(beat) for beat in when])
    return " ".join(words)


def read_web(text):
    """The web of which this is a written form."""
    lines = [line.split(" ") for line in text.split("\n")]
    beats = read_beats(lines[0])
    names = read_names(lines)
    ties = []
    for at in range(1 + len(names), len(lines)):
        tie = read_tie(lines[at], beats)
        if len(ties) == 100 or not is_tie(names, tie, beats):
            raise BadLine(at + 1)
        ties.append(tie)
    return Web(names, ties, beats=beats)


def read_beats(words):
    """The number of beats that the first line tells."""
    if len(words) != 2 or words[0] != "beats" or words[1] not in NUMERALS[1:]:
        raise BadLine(1)
    return NUMERALS.index(words[1])


def read_names(lines):
    """The names of the place lines, which end before the first line that begins with another word."""
    names = []
    for words in lines[1:]:
        if words[0] != "place":
            break
        if len(names) == 8 or len(words) != 2 or not is_name(words[1]) or words[1] in names:
            raise BadLine(len(names) + 2)
        names.append(words[1])
    if not names:
        raise BadLine(2)
    return names


def read_tie(words, beats):
    """The tie of a line, or () if the line does not have the form of one."""
    if len(words) < 3 or words[0] not in ("tie", "way"):
        return ()
    way = "two" if words[0] == "tie" else "one"
    if len(words) == 3:
        return (words[1], words[2], way, tuple(range(beats)))
    numerals = words[4:]
    if words[3] != "at" or not all([word in NUMERALS for word in numerals]):
        return ()
    return (words[1], words[2], way, tuple([NUMERALS.index(word) for word in numerals]))

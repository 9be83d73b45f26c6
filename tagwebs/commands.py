"""Commands: deeds on a desk, written as lines."""

from tagwebs.desks import Desk
from tagwebs.errors import BadCommand, TagError
from tagwebs.placing import numbers_of


def play(desk, text, *, whole=False):
    """Do the commands of a text, and return their number."""
    lines = [] if text == "" else text.split("\n")
    if whole:
        trial = desk.twin()
        do_lines(trial, lines)
        desk.become(trial)
    else:
        do_lines(desk, lines)
    return len(lines)


def would(desk, text):
    """What the desk would tell after the commands of a text: (turn, played, here, runner, heard, possible)."""
    trial = desk.twin()
    play(trial, text)
    return (trial.turn, trial.played, trial.here, trial.runner, trial.heard, trial.possible)


def replay(game, rows, *, memory=50):
    """A new desk on which the rows have been done as commands."""
    desk = Desk(game, memory=memory)
    do_lines(desk, rows)
    return desk


def do_lines(desk, lines):
    """Do each of the lines as a command, or raise BadCommand for the first one that fails."""
    for at, line in enumerate(lines):
        words = line.split(" ")
        if "\n" in line or not are_command(words):
            raise BadCommand(at + 1, None)
        try:
            do_words(desk, words)
        except TagError as why:
            raise BadCommand(at + 1, why) from why


def are_command(words):
    """True if the words have the form of a command."""
    if words[0] in ("undo", "redo"):
        return len(words) == 1
    if words[0] in ("hide", "run"):
        return len(words) == 2 and words[1] != ""
    return words[0] in ("begin", "send") and "" not in words


def do_words(desk, words):
    """Do the command of these words."""
    places = numbers_of(desk.game.web, words[1:])
    if words[0] == "undo":
        desk.undo()
    elif words[0] == "redo":
        desk.redo()
    elif words[0] == "begin":
        desk.begin(places)
    elif words[0] == "hide":
        desk.hide(places[0])
    elif words[0] == "send":
        desk.send(places)
    else:
        desk.run(places[0])

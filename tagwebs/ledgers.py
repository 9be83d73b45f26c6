"""The ledger: what a desk tells, as a table."""


def ledger(desk):
    """The list of the lines of the table: a header and one line for each place."""
    lines = [ledger_line("place", "here", "sent", "run", "told")]
    here = () if desk.here is None else desk.here
    sent = () if desk.sent is None else desk.sent
    for place, name in enumerate(desk.game.web):
        run = "may" if place in desk.possible else "-"
        told = "told" if place == desk.heard else "-"
        lines.append(ledger_line(name, here.count(place), sent.count(place), run, told))
    return lines


def ledger_line(name, here, sent, run, told):
    """A line of the table, with its columns side by side."""
    return f"{name:<8} {here:>4} {sent:>4} {run:<3} {told:>4}"

"""Every name of the interface stands in its own file, each method in the body of its own class."""

import ast
import importlib
import inspect
import pathlib
import re
import unittest

ROOT = pathlib.Path(__file__).resolve().parent.parent / "tagwebs"
DOCUMENT = ROOT.parent.parent / "shared" / "DOC.md"

FUNCTIONS = {
    "names": {"is_name": "(text)"},
    "sets": {"is_set": "(places, count)"},
    "reaching": {
        "reach": "(web, beat, starts, barred)", "rim": "(web, places)", "pieces": "(web, barred)",
        "touch": "(web, first, second)", "is_joined": "(web)",
    },
    "products": {"box": "(first, second)", "strong": "(first, second)"},
    "webtext": {"web_text": "(web)", "read_web": "(text)"},
    "standings": {
        "now_places": "(game, standing)", "is_standing": "(game, standing)", "first_standings": "(game, post)",
        "answers": "(game, standing, post)", "standings": "(game, *, most=6000)",
    },
    "deciding": {"decide": "(game, *, most=6000)", "rank_from": "(game, standing, *, most=6000)"},
    "leasts": {
        "least": "(web, *, travel='walk', pace='step', late=0, most=6000)", "least_numbers": "(web, *, most=6000)",
    },
    "corners": {"covers": "(web, left, u, v)", "fold_up": "(web)"},
    "chasing": {"folding_ranks": "(folding)", "folding_lot": "(folding)"},
    "bags": {"bags_of": "(web, order)"},
    "bagging": {"bag_answer": "(web, seekers)", "least_bags": "(web)"},
    "bagpapers": {"bags_ranks": "(bags, root=0)", "sides_lot": "(sides)"},
    "bagparts": {"cut_bags": "(bags, places)", "carry_sides": "(web, places, sides)"},
    "rows": {"row_of": "(web, order)"},
    "shuts": {"clean_sets": "(web, seekers)"},
    "clearing": {"row_answer": "(web, seekers)", "least_row": "(web)"},
    "rowpapers": {"row_ranks": "(row)", "shut_lot": "(shut)"},
    "rowparts": {
        "row_bags": "(row)", "sides_blocking": "(sides)", "cut_row": "(row, places)",
        "carry_shut": "(web, places, shut)",
    },
    "threats": {"all_threats": "(game, *, most=1000)"},
    "unseen": {
        "shortest_plan": "(game, *, most=6000)", "possible_after": "(game, posts)", "tracks": "(game, posts)",
    },
    "lateness": {"lateness": "(game, *, most=6000)"},
    "joinbags": {"join_bags": "(join, first, second)", "join_sides": "(join, seekers, first, second)"},
    "joinrows": {"join_row": "(join, first, second)", "join_shut": "(join, seekers, first, second)"},
    "joinplays": {"apart_ranks": "(join, first, second)", "apart_lot": "(join, first, second, *, pace='step')"},
    "sums": {
        "sum_bags": "(join)", "sum_row": "(join)",
        "sum_least": "(join, *, travel='walk', pace='step', late=0, most=6000)",
    },
    "plantext": {"plan_text": "(plan)", "read_plan": "(text)"},
    "positions": {
        "check_plan": "(game, plan)", "first_positions": "(game, plan)", "next_positions": "(game, plan, position)",
    },
    "judging": {"judge": "(game, plan, *, most=6000)", "is_escape": "(game, plan, stem, ring)"},
    "compiling": {"compiled": "(ranks)"},
    "shortening": {"shortened": "(plan)", "alike": "(first, second)"},
    "commands": {
        "play": "(desk, text, *, whole=False)", "would": "(desk, text)", "replay": "(game, rows, *, memory=50)",
    },
    "following": {"seek": "(desk, ranks)", "evade": "(desk, lot)", "obey": "(desk, plan, state=None)"},
    "ledgers": {"ledger": "(desk)"},
}

CLASSES = {
    ("webs", "Web"): {
        "__init__": "(self, places, ties, *, beats=1)", "plain": "property", "doorless": "property",
        "index": "(self, name)", "leads": "(self, first, second, beat)", "steps": "(self, place, beat)",
        "ties": "(self)", "within": "(self, other)", "turned": "(self, count)", "unrolled": "(self, times)",
        "backward": "(self)", "restricted": "(self, places)", "renamed": "(self, names)",
        "tied": "(cls, places, pairs, *, beats=1)", "letters": "(count)", "__len__": "(self)", "__iter__": "(self)",
        "__contains__": "(self, name)", "__eq__": "(self, other)", "__or__": "(self, other)",
        "__and__": "(self, other)", "__sub__": "(self, other)",
    },
    ("games", "Game"): {
        "__init__": "(self, web, seekers, *, travel='walk', pace='step', late=0)", "changed": "(self, **more)",
        "posts": "(self)", "is_post": "(self, post)", "sends": "(self, beat, post)",
        "runs": "(self, beat, post, sent, place)", "spread": "(self, beat, post, sent, places)",
        "__eq__": "(self, other)",
    },
    ("tables", "Table"): {
        "__init__": "(self, game, *, most=6000)", "rank": "(self, standing)", "longest": "(self, post)",
        "__len__": "(self)", "__iter__": "(self)", "__contains__": "(self, standing)",
    },
    ("papers", "Paper"): {},
    ("papers", "Ranks"): {
        "__init__": "(self, game, first, rows)", "rank": "(self, standing)", "send": "(self, standing)",
        "rows": "(self)", "pruned": "(self)", "told": "(self)", "__len__": "(self)", "__iter__": "(self)",
        "__contains__": "(self, standing)", "__eq__": "(self, other)",
    },
    ("papers", "Lot"): {
        "__init__": "(self, game, standings)", "entry": "(self, post)", "answer": "(self, standing, post)",
        "rows": "(self)", "told": "(self)", "__len__": "(self)", "__iter__": "(self)",
        "__contains__": "(self, standing)", "__eq__": "(self, other)",
    },
    ("leasts", "Least"): {},
    ("corners", "Folding"): {
        "__init__": "(self, web, folds)", "whole": "property", "finished": "property",
        "shadow": "(self, level, place)", "chase": "(self, seeker, runner)", "__eq__": "(self, other)",
    },
    ("bags", "Bags"): {
        "__init__": "(self, web, bags, links)", "size": "property", "toward": "(self, index, place)",
        "height": "(self, index, away)", "depth": "(self, index)", "__eq__": "(self, other)",
    },
    ("sides", "Sides"): {
        "__init__": "(self, web, seekers, rows)", "side": "(self, post)", "rows": "(self)", "__len__": "(self)",
        "__eq__": "(self, other)",
    },
    ("bagging", "LeastBags"): {},
    ("rows", "Row"): {
        "__init__": "(self, web, bags)", "size": "property", "clean": "(self, index)", "__eq__": "(self, other)",
    },
    ("shuts", "Shut"): {
        "__init__": "(self, web, seekers, sets)", "__len__": "(self)", "__iter__": "(self)",
        "__contains__": "(self, places)", "__eq__": "(self, other)",
    },
    ("shuts", "Blocking"): {
        "__init__": "(self, web, seekers, sets)", "__len__": "(self)", "__iter__": "(self)",
        "__contains__": "(self, places)", "__eq__": "(self, other)",
    },
    ("clearing", "LeastRow"): {},
    ("threats", "Threats"): {
        "__init__": "(self, game, rows)", "free": "property", "of": "(self, beat, post)",
        "escapes": "(self, beat, post, places)", "__len__": "(self)", "__iter__": "(self)",
    },
    ("lateness", "Lateness"): {},
    ("joins", "Join"): {
        "apart": "(cls, first, second)", "hung": "(cls, first, at, second, to)", "tied": "(cls, first, at, second, to)",
        "crossed": "(cls, first, second)", "firsts": "property", "seconds": "property", "of_first": "(self, place)",
        "of_second": "(self, place)", "sources": "(self, place)",
    },
    ("plans", "Plan"): {
        "__init__": "(self, opening, states)", "start": "property", "__call__": "(self, state, told)", "__len__": "(self)",
        "__eq__": "(self, other)",
    },
    ("judging", "Verdict"): {},
    ("judging", "Sure"): {"rank": "(self, position)", "told": "(self)", "__len__": "(self)"},
    ("judging", "Escape"): {"where": "(self, moment)", "told": "(self)"},
    ("desks", "Desk"): {
        "__init__": "(self, game, *, memory=50)", "turn": "property", "played": "property", "beat": "property",
        "here": "property", "sent": "property", "runner": "property", "knows": "property", "heard": "property",
        "possible": "property", "log": "property", "caught": "property", "begin": "(self, post)", "hide": "(self, place)",
        "send": "(self, post)", "run": "(self, place)", "undo": "(self)", "redo": "(self)",
    },
}


def shape(call):
    """The parameters of a function as the interface writes them."""
    return str(inspect.signature(call))


class Interface(unittest.TestCase):
    def test_functions(self):
        for module, functions in FUNCTIONS.items():
            defined = self.defined(module, ast.FunctionDef)
            for name, wanted in functions.items():
                self.assertIn(name, defined)
                self.assertEqual(shape(getattr(importlib.import_module(f"tagwebs.{module}"), name)), wanted, name)

    def test_classes(self):
        for (module, name), methods in CLASSES.items():
            node = self.defined(module, ast.ClassDef)[name]
            made = getattr(importlib.import_module(f"tagwebs.{module}"), name)
            body = {part.name: part for part in node.body if isinstance(part, ast.FunctionDef)}
            for method, wanted in methods.items():
                self.assertIn(method, body, name)
                found = inspect.getattr_static(made, method)
                if wanted == "property":
                    self.assertIsInstance(found, property)
                    continue
                call = getattr(found, "__func__", found)
                self.assertEqual(shape(call), wanted, (name, method))

    def test_papers_stand_under_paper(self):
        papers = importlib.import_module("tagwebs.papers")
        self.assertEqual((papers.Ranks.__bases__, papers.Lot.__bases__), ((papers.Paper,), (papers.Paper,)))

    def test_blocking_stands_under_shut(self):
        shuts = importlib.import_module("tagwebs.shuts")
        self.assertEqual((shuts.Shut.__bases__, shuts.Blocking.__bases__), ((object,), (shuts.Shut,)))

    def test_verdicts_stand_under_verdict(self):
        judging = importlib.import_module("tagwebs.judging")
        self.assertEqual((judging.Sure.__bases__, judging.Escape.__bases__), ((judging.Verdict,), (judging.Verdict,)))

    def test_the_interface_is_that_of_the_document(self):
        text = DOCUMENT.read_text() if DOCUMENT.exists() else ""
        parts = text.partition("# The interface")[2].split("\n## tagwebs/")[1:]
        for part in parts:
            module = part.partition(".py")[0]
            named = set(re.findall(r"`([a-z_]+)\([^`]*\)`", part.partition("```")[0]))
            listed = set(FUNCTIONS.get(module, {}))
            listed |= {method for (file, _), methods in CLASSES.items() if file == module for method in methods}
            # A plan itself is called.
            self.assertLessEqual(named - listed - {"plan"}, set(), module)

    def test_tracks_is_a_generator(self):
        self.assertTrue(inspect.isgeneratorfunction(importlib.import_module("tagwebs.unseen").tracks))

    def defined(self, module, kind):
        tree = ast.parse((ROOT / f"{module}.py").read_text())
        return {node.name: node for node in tree.body if isinstance(node, kind)}


if __name__ == "__main__":
    unittest.main()

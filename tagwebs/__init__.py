"""Tagwebs: games of tag on webs, decided for all ways of running."""

"""Turnletters: webs told by words in which letters take turns."""

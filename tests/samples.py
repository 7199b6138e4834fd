"""Graphs that several tests use."""

SOURCE = ("source",)

# All ten kinds of node, and their text.
ALL_KINDS = [
    ("source",),
    ("source",),
    ("map", 0),
    ("filter", 2),
    ("while", 1),
    ("take", 10, 3),
    ("drop", 20, 4),
    ("window", 5, 1),
    ("scan", -1000, 7),
    ("zip", 7, 0),
    ("merge", 8, 0),
]

ALL_KINDS_TEXT = (
    "source\nsource\nmap 0\nfilter 2\nwhile 1\ntake 10 3\ndrop 20 4\n"
    "window 5 1\nscan -1000 7\nzip 7 0\nmerge 8 0\n"
)

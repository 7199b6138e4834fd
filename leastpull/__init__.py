"""Leastpull: lazy streams that read no more than they must, and can show it."""

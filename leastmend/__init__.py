"""Leastmend: reading any text with the least mending, and keeping the tree under edits."""

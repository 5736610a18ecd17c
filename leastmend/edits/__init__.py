"""Edits: rows and texts that change, with their tables."""

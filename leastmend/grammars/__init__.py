"""Grammars: their written form, and the tests that a sound one passes."""

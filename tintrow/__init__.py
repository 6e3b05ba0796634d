"""Tintrow: a text coloured as it is changed."""

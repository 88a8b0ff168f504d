"""Likebook: books of judged cases that bind."""

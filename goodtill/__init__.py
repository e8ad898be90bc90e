"""Goodtill: which answers may be told, and which entries may be changed."""

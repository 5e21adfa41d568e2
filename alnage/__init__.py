"""Alnage: programs that reckon with quantities."""

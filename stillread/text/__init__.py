"""Texts: their windows, their frames, and their damage."""

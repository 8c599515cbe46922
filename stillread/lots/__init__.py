"""Lots: the frames of a save, and what they tell of its new cells."""

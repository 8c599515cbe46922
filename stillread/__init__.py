"""Stillread: an archive that is read back from any undamaged part."""

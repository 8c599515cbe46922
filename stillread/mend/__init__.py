"""Mending: writing again what frames tell of further ones."""

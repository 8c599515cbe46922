"""Trees and histories as they are, with nothing lost."""

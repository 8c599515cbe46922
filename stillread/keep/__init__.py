"""Archives that are kept, and go on."""

"""What frames tell of saves: marks, sketches, pieces, and what is said of gaps."""

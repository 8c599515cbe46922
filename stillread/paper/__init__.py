"""Papers, and the checker that takes them."""

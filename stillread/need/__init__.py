"""What is needed: the fewest further frames, the losses that are borne, and orders that bear them."""

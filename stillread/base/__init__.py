"""Cells, names and polys, on which everything else rests."""

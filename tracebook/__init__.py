"""Tracebook: groups of at most twenty-three things, and the books of traces that tell them."""

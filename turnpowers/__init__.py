"""Turnpowers: sums of turned numbers, their spaces, and words mended by them."""

"""Boxshift: files of nested boxes, and the fewest cells that must be written to change what is in them."""

"""Squarefield: whole numbers put together of squares, or what bars them."""

"""Cotreehall: webs of points and their kinds, told with papers either way."""

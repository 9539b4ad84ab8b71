"""Cellsatonce: a writer, a reader and the cells between them."""

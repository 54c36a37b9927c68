"""Rows sorted by neighbours' deeds, any of which may fail."""

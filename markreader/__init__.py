"""Marked text read in pieces, with marks for what isn't known yet."""

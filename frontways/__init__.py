"""Frontways: all sets of ties of a sort, in one graph."""

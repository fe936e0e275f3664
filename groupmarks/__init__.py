"""Groupmarks: which part of a text each group took."""

"""Sumtold: sums of all, told over a web."""

"""Tallies, which reckon a number letter by letter."""

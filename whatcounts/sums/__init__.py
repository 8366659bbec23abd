"""Sums of weights times counts."""

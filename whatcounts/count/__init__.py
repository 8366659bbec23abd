"""Counts and weights."""

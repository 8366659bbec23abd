"""Patterns."""

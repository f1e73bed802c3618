"""Strings of values."""

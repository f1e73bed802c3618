"""Hulls of lots of things."""

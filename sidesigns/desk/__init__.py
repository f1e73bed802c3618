"""Desks with items and promises."""

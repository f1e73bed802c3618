"""Lots of rounds and the systems that they tell."""

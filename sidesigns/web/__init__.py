"""Webs of ways, and tables over two elements."""

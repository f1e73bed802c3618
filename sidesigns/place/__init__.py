"""Systems in general place."""

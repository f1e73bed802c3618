"""Sign rows and lots of rows."""

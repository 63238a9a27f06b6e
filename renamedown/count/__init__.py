"""Numbers of rows, and lists of all of them."""

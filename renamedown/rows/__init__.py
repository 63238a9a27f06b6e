"""Rows and their groups."""

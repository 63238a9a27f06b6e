"""Renamedown: rows of exchanges that pass one another."""

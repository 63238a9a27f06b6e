"""Texts of rows, moves and papers, and commands."""

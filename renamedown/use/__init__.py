"""Rows in use."""

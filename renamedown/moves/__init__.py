"""Passings, and what they lead to."""

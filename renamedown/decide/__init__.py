"""Decisions: whether something can be, with what shows it or a reason against it."""

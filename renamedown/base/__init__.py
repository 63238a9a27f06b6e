"""The words of rows, and deeds."""

"""The tests of the package."""

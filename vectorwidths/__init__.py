"""Loops that are done many steps at once, for every width."""

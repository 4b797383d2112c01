"""Gapring: rings of numbers, each put otherwise by its gap to the next."""

"""Cornerturn: a guard who corners a runner in a web of places."""

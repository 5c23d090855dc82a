"""Onceform: sums of products of bits in which each bit comes once at most."""

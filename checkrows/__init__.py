"""Checkrows: rows of bits checked by a divisor row, and which changes that tells."""

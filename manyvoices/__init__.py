"""Manyvoices: protocols that count voices, for all numbers of members."""

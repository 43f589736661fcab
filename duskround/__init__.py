"""Duskround: rounds of a lamplighter on a street without ends."""

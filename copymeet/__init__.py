"""Copymeet: many desks, one reading."""

"""Tallyhull: whole numbers for all right sides at once."""

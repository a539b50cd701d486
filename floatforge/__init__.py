"""Floatforge: numbers kept as words of bits."""

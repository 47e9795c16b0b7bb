"""Shiftcore: symbolic dynamics with exact answers and certificates."""

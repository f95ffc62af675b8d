"""Mowfloor: floors gone over by mowers."""

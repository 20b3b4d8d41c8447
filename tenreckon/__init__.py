"""Tenreckon: decimal numbers, reckoned in contexts."""

"""Termseats: bodies whose seats come up in turns."""

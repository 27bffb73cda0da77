"""Nominations by messages: parties, a house, and the net between them."""

"""Bringnear: what is so for all maps of a kind."""

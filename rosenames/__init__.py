"""Rosenames: winds named by halves of halves."""

"""Untoldgames: boards of games that nobody tells, and what a guest can still be sure of."""

"""Cords over fingers: pulled taut, let go, closed and told alike, made of moves, and exchanged."""

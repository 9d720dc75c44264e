"""Cords over fingers: pulled taut, let go, closed and told alike."""

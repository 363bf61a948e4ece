"""Drainhouse: houses that serve, come and go."""

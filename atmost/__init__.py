"""Atmost: heights of which it is told by how much one is above another at the most."""

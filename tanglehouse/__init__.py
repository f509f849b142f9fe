"""Tanglehouse: knots, links and tangles by their diagrams."""

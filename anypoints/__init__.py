"""Anypoints: what holds by every table of points, or by every table of a family."""
